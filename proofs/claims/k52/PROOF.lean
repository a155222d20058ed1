import PyProof.Rows.All
import Wide.All
import OpenK.AllK
import Wide.FinOn
import Lean
import PyProof.EqAt
import PyProof.EqKinds
import PyProof.TupleCall
import PySem.Challenge.RW_pairsheath_k52_no_choice_beats_prices
set_option Elab.async false
set_option linter.all false
set_option maxRecDepth 100000
/-! THE HAND LAYER, for ints, bools, texts, own classes, LISTS and tuples (index, slices, in, append, pop ..), calls, loops. Paste it whole ahead of your own text; what your proof does not reach may be deleted. -/
namespace L2
open PySem PySem.Spec PyProof.Rows

/-- a key: an int or a str -/
abbrev Key := Sum Int Str
def keyIs : Key → Value → Bool
  | .inl k, v => Value.isInt k v
  | .inr x, v => Value.isStrOf x v
def keyH (w : World) : Key → Int
  | .inl k => hashInt k
  | .inr x => hashStr w x
theorem keyIs_shape : ∀ {k : Key} {v : Value}, keyIs k v = true → (∃ i t, k = Sum.inl i ∧ v = Value.int i t) ∨ (∃ x t, k = Sum.inr x ∧ v = Value.str x t)
  | .inl i, v, h => by
    obtain ⟨t, e⟩ := Value.isInt_shape (k := i) (v := v) h
    exact .inl ⟨i, t, rfl, e⟩
  | .inr x, v, h => by
    obtain ⟨t, e⟩ := Value.isStrOf_shape (x := x) (v := v) h
    exact .inr ⟨x, t, rfl, e⟩
theorem keyIs_int (i : Int) (t : Tok) : keyIs (.inl i) (.int i t) = true := by simp [keyIs, Value.isInt]
theorem keyIs_str (x : Str) (t : Tok) : keyIs (.inr x) (.str x t) = true := by simp [keyIs, Value.isStrOf]
theorem key_ll (a b : Int) : decide ((Sum.inl a : Key) = Sum.inl b) = (a == b) := by
  by_cases e : a = b
  · subst e; simp
  · have h : ¬ (Sum.inl a : Key) = Sum.inl b := fun q => e (Sum.inl.inj q)
    rw [decide_eq_false h]
    exact (beq_eq_false_iff_ne.mpr e).symm
theorem key_rr (a b : Str) : decide ((Sum.inr a : Key) = Sum.inr b) = decide (a = b) := by
  by_cases e : a = b
  · subst e; simp
  · have h : ¬ (Sum.inr a : Key) = Sum.inr b := fun q => e (Sum.inr.inj q)
    rw [decide_eq_false h, decide_eq_false e]
theorem key_lr (a : Int) (b : Str) : decide ((Sum.inl a : Key) = Sum.inr b) = false := decide_eq_false (fun q => nomatch q)
theorem key_rl (a : Str) (b : Int) : decide ((Sum.inr a : Key) = Sum.inl b) = false := decide_eq_false (fun q => nomatch q)

def mixKind (prog : Program) (w : World) : PySem.KeyKind prog w Key where
  is := keyIs
  hash := keyH w
  inj := fun v a b ha hb => by
    rcases keyIs_shape ha with ⟨i, t, rfl, rfl⟩ | ⟨x, t, rfl, rfl⟩
    · rcases keyIs_shape hb with ⟨j, u, rfl, e⟩ | ⟨y, u, rfl, e⟩
      · injection e with e1 _; rw [e1]
      · exact nomatch e
    · rcases keyIs_shape hb with ⟨j, u, rfl, e⟩ | ⟨y, u, rfl, e⟩
      · exact nomatch e
      · injection e with e1 _; rw [e1]
  byValue := fun k v h => by
    rcases keyIs_shape h with ⟨i, t, rfl, rfl⟩ | ⟨x, t, rfl, rfl⟩ <;> rfl
  pyHash := fun hv h => by
    rcases keyIs_shape hv with ⟨i, t, rfl, rfl⟩ | ⟨x, t, rfl, rfl⟩
    · exact wpAny_pyHash_int h
    · exact wpAny_pyHash_str h
  eqBool := fun hu hv h => by
    rcases keyIs_shape hu with ⟨i, t, rfl, rfl⟩ | ⟨x, t, rfl, rfl⟩
    · rcases keyIs_shape hv with ⟨j, u, rfl, rfl⟩ | ⟨y, u, rfl, rfl⟩
      · rw [key_ll] at h; exact wpAny_eqBool_int h
      · rw [key_lr] at h; exact SeqAt.EqAt.int_str i t y u _ _ _ _ h
    · rcases keyIs_shape hv with ⟨j, u, rfl, rfl⟩ | ⟨y, u, rfl, rfl⟩
      · rw [key_rl] at h; exact SeqAt.EqAt.str_int x t j u _ _ _ _ h
      · rw [key_rr] at h; exact wpAny_eqBool_str h
  «strs» := fun k x t v h => by
    rcases keyIs_shape h with ⟨i, u, rfl, e⟩ | ⟨y, u, rfl, e⟩
    · exact nomatch e
    · injection e with e1 _
      subst e1
      cases v <;> rfl

theorem mixKind_int (prog : Program) (w : World) (i : Int) (t : Tok) : (mixKind prog w).is (.inl i) (.int i t) = true := keyIs_int i t
theorem mixKind_str (prog : Program) (w : World) (x : Str) (t : Tok) : (mixKind prog w).is (.inr x) (.str x t) = true := keyIs_str x t
end L2

namespace L2
open PySem PySem.Spec PyProof.Rows

/-- a value, without the heap -/
inductive V where
  | non | bl (b : Bool) | int (i : Int) | str (x : Str) | byt (b : Array UInt8) | flt (b : UInt64) | ref (a : Addr) | ty (n : String)
  deriving DecidableEq

def RelV : V → Value → Prop
  | .non, u => u = Value.none
  | .bl b, u => u = Value.bool b
  | .int i, u => ∃ t, u = Value.int i t
  | .str x, u => ∃ t, u = Value.str x t
  | .byt b, u => ∃ t, u = Value.bytes b t
  | .flt b, u => ∃ t, u = Value.float b t
  | .ref a, u => u = Value.ref a
  | .ty n, u => u = Value.type n

abbrev Vals : List V → List Value → Prop := Paired RelV
theorem Vals.length {xs : List V} {us : List Value} (r : Vals xs us) : xs.length = us.length := Paired.length r
theorem Vals.get : ∀ {xs : List V} {us : List Value} {i : Nat} {x : V}, Vals xs us → xs[i]? = some x → ∃ u, us[i]? = some u ∧ RelV x u
  | _, _, _, _, .nil, e => by simp at e
  | _, _, 0, _, .cons r _, e => by simp at e; subst e; exact ⟨_, rfl, r⟩
  | _, _, i + 1, x, .cons _ t, e => by
    obtain ⟨u, h1, h2⟩ := Vals.get (i := i) (x := x) t (by simpa using e)
    exact ⟨u, by simpa using h1, h2⟩
theorem Vals.append : ∀ {xs ys : List V} {us ws : List Value}, Vals xs us → Vals ys ws → Vals (xs ++ ys) (us ++ ws)
  | _, _, _, _, .nil, s => s
  | _, _, _, _, .cons r t, s => .cons r (Vals.append t s)
theorem Vals.take : ∀ {xs : List V} {us : List Value} (n : Nat), Vals xs us → Vals (xs.take n) (us.take n)
  | _, _, 0, _ => .nil
  | _, _, _ + 1, .nil => .nil
  | _, _, n + 1, .cons r t => .cons r (Vals.take n t)
theorem Vals.drop : ∀ {xs : List V} {us : List Value} (n : Nat), Vals xs us → Vals (xs.drop n) (us.drop n)
  | _, _, 0, r => r
  | _, _, _ + 1, .nil => .nil
  | _, _, n + 1, .cons _ t => Vals.drop n t

def RelO : Option V → Option Value → Prop
  | some v, some u => RelV v u
  | none, none => True
  | _, _ => False
def KV {κ : Type} : List (κ × V) → List (κ × Value) → Prop := Paired fun (p : κ × V) (q : κ × Value) => p.1 = q.1 ∧ RelV p.2 q.2

/-- a key of a dict (00_mix): an int or a text -/
def kV : Key → V
  | .inl i => .int i
  | .inr x => .str x

/-- what stands at a tracked address -/
inductive HO where
  /-- a list -/
  | lst (xs : List V)
  /-- a tuple (never changes) -/
  | tup (xs : List V)
  /-- a dict whose keys are ints and texts; one whose keys are tuples of ints and texts (the empty one is both) -/
  | dK (kvs : List (Key × V)) | dT (kvs : List (List Key × V))
  /-- a set of ints: its members, its size -/
  | set (S : Int → Bool) (n : Nat)
  /-- an instance of the class at C, its dict at dx, its attributes -/
  | ins (C dx : Addr) (fs : List (Str × V))
  /-- the dict of the instance at x -/
  | own (x : Addr)
  /-- the dict of an exception -/
  | xd (fs : List (Str × V))
  /-- a bound method, f of x -/
  | met (f x : Addr)
  /-- a range object lo, lo + 1, .. below hi -/
  | rng (lo hi : Int)
  /-- a thing that is known to the object (the script; a dict while a loop walks it): read, never written while it is so -/
  | frz (o : Obj) (u : HO)
  /-- a code object's table -/
  | tbl (ps : Array Value)
  /-- any other thing, by what is true of its one object (a def of one's own: SetO a S n := HO.ext fun h => ..) -/
  | ext (φ : Heap → Prop)

abbrev Hp := Addr → Option HO
def upd (H : Hp) (a : Addr) (o : HO) : Hp := fun b => if b = a then some o else H b
theorem upd_same {H : Hp} {a : Addr} {o : HO} : upd H a o a = some o := by unfold upd; rw [if_pos rfl]
theorem upd_ne {H : Hp} {a b : Addr} {o : HO} (h : b ≠ a) : upd H a o b = H b := by unfold upd; rw [if_neg h]
theorem ne_of_none {H : Hp} {a b : Addr} {o : HO} (h : H a = some o) (h' : H b = none) : a ≠ b := by
  intro e; subst e; rw [h] at h'; cases h'

section
variable (P : Program) (w : World)
def ObjOk (H : Hp) (h : Heap) (a : Addr) : HO → Prop
  | .lst xs => xs.length ≤ sizeLine ∧ ∃ (its : List Value) (n : Nat), Vals xs its ∧ h.get? a = some { cls := .type "list", data := .seq its.toArray n }
  | .tup xs => xs.length ≤ sizeLine ∧ ∃ its : List Value, Vals xs its ∧ IsTup h a its.toArray
  | .dK kvs => kvs.length ≤ sizeLine ∧ (a == sysModules) = false ∧ ∃ vs, KV kvs vs ∧ h.DictOf (mixKind P w) a vs
  | .dT kvs => kvs.length ≤ sizeLine ∧ (a == sysModules) = false ∧ ∃ xs : List (List Key × Addr × Value),
      Paired (fun (p : List Key × V) (q : List Key × Addr × Value) => p.1 = q.1 ∧ H q.2.1 = some (.tup (p.1.map kV)) ∧ RelV p.2 q.2.2) kvs xs ∧
      ∃ o es ep, h.get? a = some o ∧ o.ExactDict ∧ o.data = .dict es ep ∧ es.toList = xs.map (entryOfKey (tupleKind (mixKind P w))) ∧ (xs.map (·.1)).Nodup
  | .set S n => h.SetOf (intKind P w) a S n
  | .ins C dx fs => H dx = some (.own a) ∧ fs.length ≤ 1000 ∧ dx ≠ a ∧ h.get? a = some (PySem.W.instObj C dx) ∧
      ∃ mA, h.Ns1 dx mA ∧ (∀ f, RelO (fs.lookup f) (mA f)) ∧ PySem.Within mA (fs.map (·.1))
  | .own _ => ∃ o, h.get? a = some o
  | .xd fs => ∃ mA, h.Ns1 a mA ∧ ∀ f, RelO (fs.lookup f) (mA f)
  | .rng lo hi => ∃ t u v, h.get? a = some { cls := .type "range", data := .fields #[.int lo t, .int hi u, .int 1 v] }
  | .frz o u => h.get? a = some o ∧ ObjOk H h a u
  | .tbl ps => h.get? a = some { cls := .none, data := .fields ps }
  | .met f x => h.get? a = some (PySem.W.methodObj (.ref f) (.ref x))
  | .ext φ => φ h ∧ (∃ o, h.get? a = some o) ∧ ∀ h1 h2 : Heap, φ h1 → (∀ o, h1.get? a = some o → h2.get? a = some o) → φ h2
/-- the abstract heap is held -/
def HOk (H : Hp) (h : Heap) : Prop := ∀ a o, H a = some o → ObjOk P w H h a o
end

section
variable {P : Program} {w : World} {H H' : Hp} {h h' : Heap} {a : Addr} {o : HO}
theorem ObjOk.lt (x : ObjOk P w H h a o) : a < h.objs.size := by
  cases o with
  | lst xs => obtain ⟨_, _, _, _, e⟩ := x; exact Heap.lt_size e
  | tup xs => obtain ⟨_, _, _, p⟩ := x; exact p.lt
  | dK kvs => obtain ⟨_, _, _, _, o, _, _, e, _⟩ := x; exact Heap.lt_size e
  | dT kvs => obtain ⟨_, _, _, _, o, _, _, e, _⟩ := x; exact Heap.lt_size e
  | set S n => obtain ⟨o, _, _, _, e, _⟩ := x; exact Heap.lt_size e
  | ins C dx fs => obtain ⟨_, _, _, e, _⟩ := x; exact Heap.lt_size e
  | own y => obtain ⟨_, e⟩ := x; exact Heap.lt_size e
  | xd fs => obtain ⟨_, ⟨_, _, _, e, _⟩, _⟩ := x; exact Heap.lt_size e
  | rng lo hi => obtain ⟨_, _, _, e⟩ := x; exact Heap.lt_size e
  | frz ob u => obtain ⟨e, _⟩ := x; exact Heap.lt_size e
  | tbl ps => exact Heap.lt_size (show h.get? a = some _ from x)
  | met f y => exact Heap.lt_size (show h.get? a = some _ from x)
  | ext φ => obtain ⟨_, ⟨_, e⟩, _⟩ := x; exact Heap.lt_size e
theorem Paired.mapP {α β : Type} {F G : α → β → Prop} : ∀ {l₁ : List α} {l₂ : List β}, Paired F l₁ l₂ → (∀ a b, F a b → G a b) → Paired G l₁ l₂
  | _, _, .nil, _ => .nil
  | _, _, .cons r t, f => .cons (f _ _ r) (Paired.mapP t f)
/-- what an object's description leans on: its own object, its own dict, the tuples -/
theorem ObjOk.stay (x : ObjOk P w H h a o) (k : ∀ b u, (b = a ∨ H b = some (.own a)) → h.get? b = some u → h'.get? b = some u)
    (ho : ∀ b, H b = some (.own a) → H' b = some (.own a)) (ht : ∀ b xs, H b = some (.tup xs) → H' b = some (.tup xs)) : ObjOk P w H' h' a o := by
  induction o with
  | lst xs => obtain ⟨z, its, n, r, e⟩ := x; exact ⟨z, its, n, r, k _ _ (.inl rfl) e⟩
  | tup xs => obtain ⟨z, its, r, ob, e, c⟩ := x; exact ⟨z, its, r, ob, k _ _ (.inl rfl) e, c⟩
  | dK kvs => obtain ⟨z, y, vs, r, ob, es, ep, e, c⟩ := x; exact ⟨z, y, vs, r, ob, es, ep, k _ _ (.inl rfl) e, c⟩
  | dT kvs =>
    obtain ⟨z, y, xs, r, ob, es, ep, e, c⟩ := x
    exact ⟨z, y, xs, Paired.mapP r fun p q z => ⟨z.1, ht _ _ z.2.1, z.2.2⟩, ob, es, ep, k _ _ (.inl rfl) e, c⟩
  | set S n => obtain ⟨ob, es, ep, t, e, c⟩ := x; exact ⟨ob, es, ep, t, k _ _ (.inl rfl) e, c⟩
  | ins C dx fs =>
    obtain ⟨d, z, ne, e, mA, ⟨od, es, ep, e2, c⟩, r⟩ := x
    exact ⟨ho _ d, z, ne, k _ _ (.inl rfl) e, mA, ⟨od, es, ep, k _ _ (.inr d) e2, c⟩, r⟩
  | own y => obtain ⟨ob, e⟩ := x; exact ⟨ob, k _ _ (.inl rfl) e⟩
  | xd fs => obtain ⟨mA, ⟨od, es, ep, e, c⟩, r⟩ := x; exact ⟨mA, ⟨od, es, ep, k _ _ (.inl rfl) e, c⟩, r⟩
  | rng lo hi => obtain ⟨t, u, v, e⟩ := x; exact ⟨t, u, v, k _ _ (.inl rfl) e⟩
  | frz ob u ih => obtain ⟨e, q⟩ := x; exact ⟨k _ _ (.inl rfl) e, ih q⟩
  | tbl ps =>
    have e : h.get? a = some { cls := .none, data := .fields ps } := x
    show h'.get? a = some { cls := .none, data := .fields ps }
    exact k a _ (.inl rfl) e
  | met f y =>
    have e : h.get? a = some (PySem.W.methodObj (.ref f) (.ref y)) := x
    show h'.get? a = some (PySem.W.methodObj (.ref f) (.ref y))
    exact k a _ (.inl rfl) e
  | ext φ => obtain ⟨p, ⟨o, e⟩, st⟩ := x; exact ⟨st _ _ p fun o q => k _ _ (.inl rfl) q, ⟨o, k _ _ (.inl rfl) e⟩, st⟩
theorem HOk.lt (x : HOk P w H h) (e : H a = some o) : a < h.objs.size := (x a o e).lt
theorem HOk.fresh (x : HOk P w H h) (e : h.objs.size ≤ a) : H a = none := by
  cases q : H a with
  | none => rfl
  | some u => exact absurd (Nat.lt_of_lt_of_le (x.lt q) e) (Nat.lt_irrefl _)
/-- every object of the heap is kept -/
theorem HOk.kept (x : HOk P w H h) (k : ∀ b u, h.get? b = some u → h'.get? b = some u) : HOk P w H h' := fun a o e =>
  (x a o e).stay (fun b u _ q => k b u q) (fun _ q => q) fun _ _ q => q
/-- a new object is laid and tracked -/
theorem HOk.laid (x : HOk P w H h) (k : ∀ b u, h.get? b = some u → h'.get? b = some u) (hp : h.objs.size ≤ a) (new : ObjOk P w (upd H a o) h' a o) : HOk P w (upd H a o) h' := fun b u e => by
  have hn := x.fresh hp
  by_cases hb : b = a
  · subst hb; rw [upd_same] at e; cases e; exact new
  · rw [upd_ne hb] at e
    exact (x b u e).stay (fun c v _ q => k c v q) (fun c q => by rw [upd_ne (ne_of_none q hn)]; exact q) fun c xs q => by rw [upd_ne (ne_of_none q hn)]; exact q
end

/-- what may be read as u: it is u, or a known u -/
def Rd (H : Hp) (a : Addr) (u : HO) : Prop := H a = some u ∨ ∃ o, H a = some (.frz o u)
theorem Rd.ok {P : Program} {w : World} {H : Hp} {h : Heap} {a : Addr} {u : HO} (r : Rd H a u) (x : HOk P w H h) : ObjOk P w H h a u := by
  rcases r with r | ⟨o, r⟩
  · exact x a u r
  · obtain ⟨_, q⟩ := x a _ r
    exact q
/-- what may be written -/
def Mut : Option HO → Prop
  | some (.lst _) => True
  | some (.dK _) => True
  | some (.dT _) => True
  | some (.set _ _) => True
  | some (.ins _ _ _) => True
  | some (.ext _) => True
  | _ => False
section
variable {P : Program} {w : World} {H : Hp} {h h' : Heap} {x e : Addr} {o' : HO}
/-- the object at e is changed: x itself, or the dict of the instance x -/
theorem HOk.write (ok : HOk P w H h) (mu : Mut (H x)) (he : e = x ∨ H e = some (.own x)) (k : ∀ b u, b ≠ e → h.get? b = some u → h'.get? b = some u) (heo : ∃ u, h'.get? e = some u)
    (new : ObjOk P w (upd H x o') h' x o') : HOk P w (upd H x o') h' := fun b u q => by
  have nown : ∀ c y, H c = some (.own y) → c ≠ x := fun c y r z => by subst z; rw [r] at mu; exact mu
  have ntup : ∀ c xs, H c = some (.tup xs) → c ≠ x := fun c xs r z => by subst z; rw [r] at mu; exact mu
  by_cases hb : b = x
  · subst hb; rw [upd_same] at q; cases q; exact new
  · rw [upd_ne hb] at q
    by_cases hbe : b = e
    · have q' : H b = some (.own x) := by
        rcases he with z | z
        · exact absurd (hbe.trans z) hb
        · rw [hbe]; exact z
      rw [q] at q'; cases q'
      obtain ⟨v, hv⟩ := heo
      exact ⟨v, by rw [hbe]; exact hv⟩
    · refine (ok b u q).stay (fun c v hc r => k c v ?_ r) (fun c r => by rw [upd_ne (nown c b r)]; exact r) fun c xs r => by rw [upd_ne (ntup c xs r)]; exact r
      rcases hc with rfl | hc
      · exact hbe
      · rintro rfl
        rcases he with z | z
        · exact nown c b hc z
        · rw [hc] at z; cases z; exact hb rfl
end

/-! ### kept unless tracked; of the frames at fs (the callers') the slots may change (an exception that passes writes there); of the records at ex (iterators) nothing is said -/
structure Un (fs ex : List Addr) (H H' : Hp) (h h' : Heap) : Prop where
  keep : ∀ b o, h.get? b = some o → H b = none → b ∉ fs → b ∉ ex → h'.get? b = some o
  slot : ∀ b o, h.get? b = some o → H b = none → b ∈ fs → b ∉ ex → ∃ sl, h'.get? b = some { o with slots := sl }
  free : ∀ b o, h.get? b = some o → H b = none → b ∉ ex → H' b = none
  there : ∀ b o, h.get? b = some o → b ∉ ex → ∃ o', h'.get? b = some o'
  tups : ∀ b xs, H b = some (.tup xs) → H' b = some (.tup xs)
  frzs : ∀ b o u, H b = some (.frz o u) → H' b = some (.frz o u)
  tbls : ∀ b ps, H b = some (.tbl ps) → ∃ more, H' b = some (.tbl (ps ++ more))
section
variable {fs fs' ex ex' : List Addr} {H H1 H2 : Hp} {h h1 h2 h' : Heap} {a x e : Addr} {o : HO}
theorem Un.any (u : Un fs ex H H1 h h1) {b : Addr} {ob : Obj} (q : h.get? b = some ob) (n : H b = none) (hx : b ∉ ex) : ∃ sl, h1.get? b = some { ob with slots := sl } := by
  by_cases hb : b ∈ fs
  · exact u.slot b ob q n hb hx
  · exact ⟨ob.slots, u.keep b ob q n hb hx⟩
theorem Un.kept (k : ∀ b u, h.get? b = some u → h'.get? b = some u) : Un fs ex H H h h' :=
  ⟨fun b ob q _ _ _ => k b ob q, fun b ob q _ _ _ => ⟨ob.slots, k b ob q⟩, fun _ _ _ n _ => n, fun b ob q _ => ⟨ob, k b ob q⟩, fun _ _ q => q, fun _ _ _ q => q, fun _ ps q => ⟨#[], by rw [q]; simp⟩⟩
theorem Un.refl : Un fs ex H H h h := Un.kept fun _ _ q => q
theorem Un.laid (k : ∀ b u, h.get? b = some u → h'.get? b = some u) (hp : h.objs.size ≤ a) (hn : H a = none) : Un fs ex H (upd H a o) h h' where
  keep := fun b u q _ _ _ => k b u q
  slot := fun b u q _ _ _ => ⟨u.slots, k b u q⟩
  free := fun b u q n _ => by rw [upd_ne (Nat.ne_of_lt (Nat.lt_of_lt_of_le (Heap.lt_size q) hp))]; exact n
  there := fun b u q _ => ⟨u, k b u q⟩
  tups := fun b xs q => by rw [upd_ne (ne_of_none q hn)]; exact q
  frzs := fun b u xs q => by rw [upd_ne (ne_of_none q hn)]; exact q
  tbls := fun b ps q => ⟨#[], by rw [upd_ne (ne_of_none q hn), q]; simp⟩
theorem Un.write (mu : Mut (H x)) (he : e = x ∨ H e = some (.own x)) (k : ∀ b u, b ≠ e → h.get? b = some u → h'.get? b = some u) (heo : ∃ u, h'.get? e = some u) : Un fs ex H (upd H x o) h h' := by
  have hx : ∀ b, H b = none → b ≠ x := fun b n z => by subst z; rw [n] at mu; exact mu
  have hb : ∀ b, H b = none → b ≠ e := fun b n z => by
    subst z
    rcases he with r | r
    · exact hx b n r
    · rw [n] at r; cases r
  have hm : ∀ b u, H b = some u → ¬ Mut (some u) → b ≠ x := fun b u q nm z => by subst z; rw [q] at mu; exact nm mu
  refine ⟨fun b u q n _ _ => k b u (hb b n) q, fun b u q n _ _ => ⟨u.slots, k b u (hb b n) q⟩, fun b u q n _ => by rw [upd_ne (hx b n)]; exact n, fun b u q _ => ?_,
    fun b xs q => by rw [upd_ne (hm b _ q fun z => z)]; exact q, fun b u xs q => by rw [upd_ne (hm b _ q fun z => z)]; exact q, fun b ps q => ⟨#[], by rw [upd_ne (hm b _ q fun z => z), q]; simp⟩⟩
  by_cases hbe : b = e
  · subst hbe; exact heo
  · exact ⟨u, k b u hbe q⟩
end

/-! ### the heap without what is tracked -/
def trk (h : Heap) (H : Hp) : List Addr := (List.range h.objs.size).filter fun a => (H a).isSome
def hidT (h : Heap) (H : Hp) : Heap := PySem.W.hideAll h (trk h H)
theorem hidT_size (h : Heap) (H : Hp) : (hidT h H).objs.size = h.objs.size := PySem.W.hideAll_size _ _
theorem hidT_get {h : Heap} {H : Hp} {b : Addr} {o : Obj} (e : h.get? b = some o) (n : H b = none) : (hidT h H).get? b = some o :=
  PySem.W.hideAll_get _ e fun hm => by
    have q : (H b).isSome = true := (List.mem_filter.mp hm).2
    rw [n] at q; simp at q
theorem of_hidT {h : Heap} {H : Hp} {b : Addr} {o : Obj} (e : (hidT h H).get? b = some o) : h.get? b = some o ∧ H b = none := by
  have e' : h.get? b = some o := PySem.W.of_hideAll (trk h H) e
  refine ⟨e', ?_⟩
  cases q : H b with
  | none => rfl
  | some x =>
    have hm : b ∈ trk h H := List.mem_filter.mpr ⟨List.mem_range.mpr (Heap.lt_size e'), by simp [q]⟩
    have z : (hidT h H).get? b = none := PySem.W.hideAll_none (trk h H) hm
    rw [z] at e; cases e

/-! ### OpenK's ledger, filled with every new object but one -/
def allNews (g h : Heap) (L : Addr) : List (Addr × Obj) := (List.range h.objs.size).filterMap fun a => if a = L ∨ (g.get? a).isSome = true then none else (h.get? a).map fun o => (a, o)
def rest (g h : Heap) (L d : Addr) : List (Addr × Obj) := (allNews g h L).filter fun p => decide (p.1 ≠ d)
end L2

namespace L2
open PySem PySem.Spec PyProof.Rows

/-- the module's facts, over the base: the heap at the law's entry without what is tracked there -/
structure Mod (K : PySem.W.Frag) (mg : Str → Option Value) (base : Heap) : Prop where
  kin : K.In base
  glob : base.Ns mainGlobals mg
  blt : ∃ mb, base.Ns builtinsNs mb ∧ ∀ x : Str, x ≠ "__name__" → mb x = bootBuiltins x
  nolimit : base.NoLimit

/-- the context: a def's body (or a comprehension's block) running. base: fixed through the whole law; s₀, H₀: the entry; outer: the frames whose slots others may change (a def's callers); stack: all frames that run;
   ex: iterators that were made ahead of the entry and are walked here (a comprehension's); fn: the names whose cells were made at the entry (a def: all; a comprehension's block: its own); calm: not within an except suite; pn: pins that every state bears; xe: what is wanted of an exception that leaves the code -/
structure Cx where
  prog : Program
  w : World
  K : PySem.W.Frag
  mg : Str → Option Value
  base : Heap
  A : Around
  N : List Str
  s₀ : Shared
  H₀ : Hp
  env : Env
  outer : List Env
  stack : List Env
  ex : List Addr
  fn : Str → Bool
  calm : Bool
  pn : List (Addr × Obj)
  xe : Value → Shared → Prop
/-- the callers' frames -/
def frs (l : List Env) : List Addr := l.filterMap (·.frame)
abbrev Cx.fs (X : Cx) : List Addr := frs X.outer

def Vis (sc : Scope) (x : Str) : Prop := sc.names.lookup x = some .local ∨ sc.names.lookup x = some .cell ∨ sc.names.lookup x = some .free
def Loc (sc : Scope) (x : Str) : Prop := sc.names.lookup x = some .local ∨ sc.names.lookup x = some .cell
def Look (env : Env) (h : Heap) (m : Str → Option Value) (x : Str) (u : Value) : Prop :=
  (env.kindOf x = some .local ∧ m x = some u) ∨ ((env.kindOf x = some .cell ∨ env.kindOf x = some .free) ∧ ∃ c, env.cells.lookup x = some c ∧ h.IsCell c (some u))

structure Cx.Ok (X : Cx) : Prop where
  mod : Mod X.K X.mg X.base
  kind : X.env.scope.kind = .function
  glob : X.env.globals = mainGlobals
  blt : X.env.builtins = builtinsNs
  above : X.s₀.heap.objs.size ≤ X.env.locals
  inj : ∀ x y c, X.env.cells.lookup x = some c → X.env.cells.lookup y = some c → x = y
  has : ∀ x, (X.env.kindOf x = some .cell ∨ X.env.kindOf x = some .free) → ∃ c, X.env.cells.lookup x = some c
  cab : ∀ x c, X.fn x = true → X.env.cells.lookup x = some c → X.s₀.heap.objs.size ≤ c
  hd : X.calm = true → X.A.handled = none
  frames : X.A.frames = some X.stack
  stk : X.stack = X.outer ∨ (X.stack = X.env :: X.outer ∧ X.env.frame = some X.env.locals)
  exf : ∀ b ∈ X.ex, b ≠ X.env.locals ∧ ∀ x c, X.env.cells.lookup x = some c → c ≠ b
  bs : ∀ b o, X.base.get? b = some o → X.s₀.heap.get? b = some o ∧ X.H₀ b = none
  bsz : X.base.objs.size ≤ X.s₀.heap.objs.size
  noex : ∀ b o, X.base.get? b = some o → b ∉ X.ex
  exfs : ∀ b ∈ X.ex, b ∉ X.fs
  funs : X.s₀.heap.FunFrames X.base X.outer
  frf : ∀ b ∈ X.fs, X.H₀ b = none

structure Inv (X : Cx) (pins : List (Addr × Obj)) (σ : List (Option V)) (H : Hp) (s : Shared) : Prop where
  ok : X.Ok
  os : s.os = X.s₀.os
  bare : AllBare s.gens
  base : Un X.fs X.ex X.H₀ H X.s₀.heap s.heap
  loc : ∃ m, s.heap.Ns X.env.locals m ∧ ∀ (i : Nat) (x : Str) (v : V), X.N[i]? = some x → σ[i]? = some (some v) → Vis X.env.scope x → ∃ u, RelV v u ∧ Look X.env s.heap m x u
  cell : ∀ x c, X.env.cells.lookup x = some c → ∃ v, s.heap.IsCell c v
  free : H X.env.locals = none
  freeC : ∀ x c, X.env.cells.lookup x = some c → H c = none
  pin : ∀ p ∈ X.pn ++ pins, s.heap.get? p.1 = some p.2 ∧ H p.1 = none ∧ p.1 ≠ X.env.locals ∧ p.1 ∉ X.fs ∧ ∀ v, p.2.data ≠ .cell v
  hok : HOk X.prog X.w H s.heap
  len : σ.length = X.N.length

section
variable {X : Cx} {pins : List (Addr × Obj)} {σ : List (Option V)} {H H' : Hp} {s : Shared} {h' : Heap}

theorem Cx.Ok.nofr (ok : X.Ok) {b : Addr} {o : Obj} (e : X.base.get? b = some o) : b ∉ X.fs := fun hb => by
  have := (ok.funs.mem hb).1
  rw [e] at this; cases this
theorem Inv.bs (I : Inv X pins σ H s) : ∀ b o, X.base.get? b = some o → s.heap.get? b = some o ∧ H b = none := fun b o e =>
  ⟨I.base.keep b o (I.ok.bs b o e).1 (I.ok.bs b o e).2 (I.ok.nofr e) (I.ok.noex b o e), I.base.free b o (I.ok.bs b o e).1 (I.ok.bs b o e).2 (I.ok.noex b o e)⟩
theorem Inv.bk (I : Inv X pins σ H s) : ∀ b o, X.base.get? b = some o → s.heap.get? b = some o := fun b o e => (I.bs b o e).1
theorem Inv.mod (I : Inv X pins σ H s) : Mod X.K X.mg X.base := I.ok.mod
theorem Inv.kIn (I : Inv X pins σ H s) : X.K.In s.heap := I.ok.mod.kin.keeps I.bk
theorem Inv.lt (I : Inv X pins σ H s) : X.env.locals < s.heap.objs.size := let ⟨_, hn, _⟩ := I.loc; hn.lt
theorem Inv.sz (I : Inv X pins σ H s) : X.s₀.heap.objs.size ≤ s.heap.objs.size := Nat.le_trans I.ok.above (Nat.le_of_lt I.lt)
theorem Inv.nofs (I : Inv X pins σ H s) {a : Addr} (h : s.heap.objs.size ≤ a) : a ∉ X.fs := fun hb => by
  obtain ⟨_, o, ho, _⟩ := I.ok.funs.mem hb
  exact absurd (Nat.lt_of_lt_of_le (Heap.lt_size ho) (Nat.le_trans I.sz h)) (Nat.lt_irrefl _)
theorem Inv.cne (I : Inv X pins σ H s) : ∀ x c, X.env.cells.lookup x = some c → c ≠ X.env.locals := fun x c e z => by
  obtain ⟨v, o, ho, hd⟩ := I.cell x c e
  obtain ⟨m, ⟨o', es, ep, ho', hd', _⟩, _⟩ := I.loc
  rw [z, ho'] at ho; cases ho; rw [hd'] at hd; cases hd
theorem Inv.funs (I : Inv X pins σ H s) : s.heap.FunFrames X.base X.outer := by
  have all : ∀ (l : List Env), (∀ b ∈ frs l, b ∈ X.fs) → X.s₀.heap.FunFrames X.base l → s.heap.FunFrames X.base l := by
    intro l
    induction l with
    | nil => intro _ _; trivial
    | cons env r ih =>
      intro hs hl
      obtain ⟨hk, ⟨L, o, hf, hn, ho, hd⟩, hr⟩ := hl
      have hL : L ∈ X.fs := hs L (by unfold frs; rw [List.filterMap_cons, hf]; exact List.mem_cons_self)
      obtain ⟨sl, e⟩ := I.base.slot L o ho (I.ok.frf L hL) hL fun z => I.ok.exfs L z hL
      exact ⟨hk, ⟨L, _, hf, hn, e, hd⟩, ih (fun b hb => hs b (by unfold frs; rw [List.filterMap_cons, hf]; exact List.mem_cons_of_mem _ hb)) hr⟩
  exact all X.outer (fun _ hb => hb) I.ok.funs

/-- the frames that run, for a call -/
theorem Inv.stack (I : Inv X pins σ H s) : s.heap.FunFrames X.base X.stack := by
  rcases I.ok.stk with e | ⟨e, hf⟩
  · rw [e]; exact I.funs
  · rw [e]
    obtain ⟨m, hn, _⟩ := I.loc
    refine .cons (by rw [I.ok.kind]; decide) hf hn ?_ I.funs
    exact Heap.get?_none_of_le (Nat.le_trans I.ok.bsz I.ok.above)
theorem Inv.stkSub (I : Inv X pins σ H s) : ∀ b ∈ frs X.stack, b ∈ X.env.locals :: X.fs := fun b hb => by
  rcases I.ok.stk with e | ⟨e, hf⟩
  · rw [e] at hb; exact List.mem_cons_of_mem _ hb
  · rw [e] at hb
    unfold frs at hb
    rw [List.filterMap_cons, hf] at hb
    exact hb
theorem Inv.stkFree (I : Inv X pins σ H s) : ∀ b ∈ frs X.stack, H b = none := fun b hb => by
  rcases List.mem_cons.mp (I.stkSub b hb) with e | hb
  · rw [e]; exact I.free
  · obtain ⟨_, o, ho, _⟩ := I.ok.funs.mem hb
    exact I.base.free b o ho (I.ok.frf b hb) fun z => I.ok.exfs b z hb

/-- THE STEP: the untracked objects but the frame and the records at ch are kept (the callers' frames up to slots), the frame's map is kept, the new abstract heap is held -/
theorem Inv.step {g' : Array GenState} {t' : Nat} {d' : Drawn} {ch : List Addr} (I : Inv X pins σ H s)
    (hch : ∀ b ∈ ch, (b ∈ X.ex ∨ X.s₀.heap.objs.size ≤ b) ∧ b ≠ X.env.locals ∧ (∀ x c, X.env.cells.lookup x = some c → c ≠ b) ∧ ∀ p ∈ X.pn ++ pins, p.1 ≠ b)
    (keep : ∀ b o, b ≠ X.env.locals → b ∉ X.fs → b ∉ ch → s.heap.get? b = some o → H b = none → h'.get? b = some o)
    (slot : ∀ b o, b ≠ X.env.locals → b ∈ X.fs → b ∉ ch → s.heap.get? b = some o → H b = none → ∃ sl, h'.get? b = some { o with slots := sl }) (free : ∀ b o, b ∉ ch → s.heap.get? b = some o → H b = none → H' b = none)
    (there : ∀ b o, b ∉ ch → s.heap.get? b = some o → ∃ o', h'.get? b = some o')
    (tups : ∀ b xs, H b = some (.tup xs) → H' b = some (.tup xs)) (frzs : ∀ b o u, H b = some (.frz o u) → H' b = some (.frz o u)) (tbls : ∀ b ps, H b = some (.tbl ps) → ∃ more, H' b = some (.tbl (ps ++ more)))
    (ns : ∀ m, s.heap.Ns X.env.locals m → h'.Ns X.env.locals m) (hok : HOk X.prog X.w H' h') (hg : AllBare g') :
    Inv X pins σ H' { s with heap := h', gens := g', drawn := d', toks := t' } := by
  have neL : ∀ b o, X.s₀.heap.get? b = some o → b ≠ X.env.locals := fun b o e => Nat.ne_of_lt (Nat.lt_of_lt_of_le (Heap.lt_size e) I.ok.above)
  have neC : ∀ b o, X.s₀.heap.get? b = some o → b ∉ X.ex → b ∉ ch := fun b o e hx hb => by
    rcases (hch b hb).1 with z | z
    · exact hx z
    · exact absurd (Nat.lt_of_lt_of_le (Heap.lt_size e) z) (Nat.lt_irrefl _)
  have cellK : ∀ x c, X.env.cells.lookup x = some c → ∀ v, s.heap.IsCell c v → h'.IsCell c v := fun x c e v ⟨o, ho, hd⟩ => by
    have nch : c ∉ ch := fun z => (hch c z).2.2.1 x c e rfl
    by_cases hc : c ∈ X.fs
    · obtain ⟨sl, q⟩ := slot c o (I.cne x c e) hc nch ho (I.freeC x c e)
      exact ⟨_, q, hd⟩
    · exact ⟨o, keep c o (I.cne x c e) hc nch ho (I.freeC x c e), hd⟩
  refine ⟨I.ok, I.os, hg, ⟨fun b o e n hb hx => ?_, fun b o e n hb hx => ?_, fun b o e n hx => ?_, fun b o e hx => ?_, fun b xs e => tups b xs (I.base.tups b xs e), fun b o xs e => frzs b o xs (I.base.frzs b o xs e), fun b ps e => ?_⟩, ?_, fun x c e => ?_, ?_, fun x c e => ?_, fun p hp => ?_, hok, I.len⟩
  · exact keep b o (neL b o e) hb (neC b o e hx) (I.base.keep b o e n hb hx) (I.base.free b o e n hx)
  · obtain ⟨sl, e1⟩ := I.base.slot b o e n hb hx
    obtain ⟨sl', e2⟩ := slot b _ (neL b o e) hb (neC b o e hx) e1 (I.base.free b o e n hx)
    exact ⟨sl', e2⟩
  · obtain ⟨o', e1⟩ := I.base.there b o e hx
    exact free b o' (neC b o e hx) e1 (I.base.free b o e n hx)
  · obtain ⟨o', e1⟩ := I.base.there b o e hx
    exact there b o' (neC b o e hx) e1
  · obtain ⟨m1, e1⟩ := I.base.tbls b ps e
    obtain ⟨m2, e2⟩ := tbls b _ e1
    exact ⟨m1 ++ m2, by rw [e2, Array.append_assoc]⟩
  · obtain ⟨m, hn, hl⟩ := I.loc
    refine ⟨m, ns m hn, fun i x v e1 e2 e3 => ?_⟩
    obtain ⟨u, r, l⟩ := hl i x v e1 e2 e3
    refine ⟨u, r, ?_⟩
    rcases l with l | ⟨k, c, e, z⟩
    · exact .inl l
    · exact .inr ⟨k, c, e, cellK x c e _ z⟩
  · obtain ⟨v, z⟩ := I.cell x c e
    exact ⟨v, cellK x c e v z⟩
  · obtain ⟨m, ⟨o, _, _, ho, _⟩, _⟩ := I.loc
    exact free _ o (fun z => (hch _ z).2.1 rfl) ho I.free
  · obtain ⟨v, o, ho, hd⟩ := I.cell x c e
    exact free c o (fun z => (hch c z).2.2.1 x c e rfl) ho (I.freeC x c e)
  · obtain ⟨e, n, ne, nf, d⟩ := I.pin p hp
    have nch : p.1 ∉ ch := fun z => (hch p.1 z).2.2.2 p hp rfl
    exact ⟨keep p.1 p.2 ne nf nch e n, free p.1 p.2 nch e n, ne, nf, d⟩
/-- .. where the frame's own object is kept too -/
theorem Inv.un {t' : Nat} (I : Inv X pins σ H s) (u : Un X.fs [] H H' s.heap h') (hok : HOk X.prog X.w H' h') : Inv X pins σ H' { s with heap := h', toks := t' } := by
  obtain ⟨m, ⟨o, es, ep, ho, r⟩, _⟩ := id I.loc
  obtain ⟨sl, hL⟩ := u.any ho I.free (by simp)
  exact I.step (g' := s.gens) (d' := s.drawn) (ch := []) (fun _ z => nomatch z) (fun b o _ hb _ e n => u.keep b o e n hb (by simp)) (fun b o _ hb _ e n => u.slot b o e n hb (by simp)) (fun b o _ e n => u.free b o e n (by simp)) (fun b o _ e => u.there b o e (by simp)) u.tups u.frzs u.tbls (fun m' hm => by
    obtain ⟨o', es', ep', ho', r'⟩ := hm
    rw [ho] at ho'; cases ho'
    exact ⟨_, es', ep', hL, r'⟩) hok I.bare
/-- behind a call (or a comprehension's block): the slots of this frame may have changed too, the records at ch may have turned -/
theorem Inv.call {g' : Array GenState} {t' : Nat} {d' : Drawn} {ch : List Addr} (I : Inv X pins σ H s) (u : Un (frs X.stack) ch H H' s.heap h') (hok : HOk X.prog X.w H' h') (hg : AllBare g')
    (hch : ∀ b ∈ ch, (b ∈ X.ex ∨ X.s₀.heap.objs.size ≤ b) ∧ b ≠ X.env.locals ∧ (∀ x c, X.env.cells.lookup x = some c → c ≠ b) ∧ ∀ p ∈ X.pn ++ pins, p.1 ≠ b) :
    Inv X pins σ H' { s with heap := h', gens := g', drawn := d', toks := t' } := by
  obtain ⟨m, ⟨o, es, ep, ho, r⟩, _⟩ := id I.loc
  obtain ⟨sl, hL⟩ := u.any ho I.free fun z => (hch _ z).2.1 rfl
  exact I.step (ch := ch) hch (fun b o hL hb hc e n => u.keep b o e n (fun z => (List.mem_cons.mp (I.stkSub b z)).elim hL hb) hc) (fun b o _ _ hc e n => u.any e n hc) (fun b o hc e n => u.free b o e n hc) (fun b o hc e => u.there b o e hc) u.tups u.frzs u.tbls (fun m' hm => by
    obtain ⟨o', es', ep', ho', r'⟩ := hm
    rw [ho] at ho'; cases ho'
    exact ⟨_, es', ep', hL, r'⟩) hok hg
/-- an untracked record of ours (an iterator) has turned -/
theorem Inv.turned {t' : Nat} {it : Addr} (I : Inv X pins σ H s) (k : ∀ b o, b ≠ it → s.heap.get? b = some o → h'.get? b = some o) (hn : H it = none) (hL : it ≠ X.env.locals)
    (h1 : it ∈ X.ex ∨ X.s₀.heap.objs.size ≤ it) (h2 : ∀ x c, X.env.cells.lookup x = some c → c ≠ it) (h3 : ∀ p ∈ X.pn ++ pins, p.1 ≠ it) : Inv X pins σ H { s with heap := h', toks := t' } := by
  have nit : ∀ b u, H b = some u → b ≠ it := fun b u e z => by rw [z, hn] at e; cases e
  refine I.step (g' := s.gens) (d' := s.drawn) (ch := [it]) (fun b hb => ?_) (fun b o _ _ hc e _ => k b o (fun z => hc (by simp [z])) e) (fun b o _ _ hc e _ => ⟨o.slots, k b o (fun z => hc (by simp [z])) e⟩) (fun _ _ _ _ n => n)
    (fun b o hc e => ⟨o, k b o (fun z => hc (by simp [z])) e⟩) (fun _ _ e => e) (fun _ _ _ e => e) (fun b ps e => ⟨#[], by rw [e]; simp⟩) (fun m hm => ?_) (fun b u e => ?_) I.bare
  · have e : b = it := by simpa using hb
    subst e
    exact ⟨h1, hL, h2, h3⟩
  · obtain ⟨o, es, ep, ho, r⟩ := hm
    exact ⟨o, es, ep, k _ o (Ne.symm hL) ho, r⟩
  · refine (I.hok b u e).stay (fun c v hc q => k c v ?_ q) (fun _ q => q) fun _ _ q => q
    rcases hc with z | z
    · rw [z]; exact nit b u e
    · exact nit c _ z
theorem Inv.tok (I : Inv X pins σ H s) (t : Nat) : Inv X pins σ H { s with toks := t } := I.un (h' := s.heap) (t' := t) Un.refl I.hok
/-- all objects kept -/
theorem Inv.kept {t' : Nat} (I : Inv X pins σ H s) (k : ∀ b u, s.heap.get? b = some u → h'.get? b = some u) : Inv X pins σ H { s with heap := h', toks := t' } := I.un (Un.kept k) (I.hok.kept k)
/-- a new object laid and tracked -/
theorem Inv.laid {a : Addr} {o : HO} {t' : Nat} (I : Inv X pins σ H s) (k : ∀ b u, s.heap.get? b = some u → h'.get? b = some u) (hp : s.heap.objs.size ≤ a) (new : ObjOk X.prog X.w (upd H a o) h' a o) :
    Inv X pins σ (upd H a o) { s with heap := h', toks := t' } := I.un (Un.laid k hp (I.hok.fresh hp)) (I.hok.laid k hp new)
/-- an object written -/
theorem Inv.write {x e : Addr} {o : HO} {t' : Nat} (I : Inv X pins σ H s) (mu : Mut (H x)) (he : e = x ∨ H e = some (.own x)) (k : ∀ b u, b ≠ e → s.heap.get? b = some u → h'.get? b = some u) (heo : ∃ u, h'.get? e = some u)
    (new : ObjOk X.prog X.w (upd H x o) h' x o) : Inv X pins σ (upd H x o) { s with heap := h', toks := t' } := I.un (Un.write mu he k heo) (I.hok.write mu he k heo new)
theorem Inv.pins_of {pins' : List (Addr × Obj)} (I : Inv X pins σ H s) (h : ∀ p ∈ pins', s.heap.get? p.1 = some p.2 ∧ H p.1 = none ∧ p.1 ≠ X.env.locals ∧ p.1 ∉ X.fs ∧ ∀ v, p.2.data ≠ .cell v) : Inv X pins' σ H s :=
  ⟨I.ok, I.os, I.bare, I.base, I.loc, I.cell, I.free, I.freeC, fun p hp => (List.mem_append.mp hp).elim (fun z => I.pin p (List.mem_append_left _ z)) (h p), I.hok, I.len⟩

theorem nodup_ix {N : List Str} (hN : N.Nodup) {i j : Nat} {x : Str} (a : N[i]? = some x) (b : N[j]? = some x) : i = j := by
  obtain ⟨h1, e1⟩ := List.getElem?_eq_some_iff.mp a
  obtain ⟨h2, e2⟩ := List.getElem?_eq_some_iff.mp b
  exact (List.getElem_inj hN).mp (e1.trans e2.symm)

/-- a name is stored; what changed -/
theorem store_ok2 {M : Model} {A : Around} {E : Value → Shared → Prop} {i : Nat} {x : Str} {v : V} {u : Value} {Q : Unit → Shared → Prop} (I : Inv X pins σ H s) (hN : X.N.Nodup) (hi : X.N[i]? = some x) (hx : Loc X.env.scope x) (r : RelV v u)
    (h : ∀ s', Inv X pins (σ.set i (some v)) H s' → (∃ a, Heap.SameBut a s.heap s'.heap ∧ (a = X.env.locals ∨ X.env.cells.lookup x = some a)) → Q () s') (hf : X.fn x = true ∨ X.env.scope.names.lookup x = some .local := by first | exact .inl rfl | exact .inr rfl | assumption) : wpAny M A (storeName X.env x u) Q E s := by
  obtain ⟨m, hn, hl⟩ := id I.loc
  have hcls : (X.env.scope.kind == .class || (X.env.scope.kind == .module && X.env.locals != X.env.globals)) = false := by rw [I.ok.kind]; rfl
  have hiσ : i < σ.length := by rw [I.len]; exact (List.getElem?_eq_some_iff.mp hi).1
  have cne := I.cne
  have tracked : ∀ {a : Addr} {h' : Heap}, (∃ o, s.heap.get? a = some o ∧ H a = none) → Heap.SameBut a s.heap h' → HOk X.prog X.w H h' := fun {a h'} ha hs b ob e => by
    obtain ⟨_, _, hfree⟩ := ha
    refine (I.hok b ob e).stay (fun c w' hc q => (hs.2 c ?_).trans q) (fun _ q => q) fun _ _ q => q
    rintro rfl
    rcases hc with rfl | hc
    · rw [hfree] at e; cases e
    · rw [hfree] at hc; cases hc
  rcases hx with hk | hk
  · refine wpAny_storeName_local hk hn (fun h' hn' hs => ?_) hcls
    obtain ⟨oL, _, _, hoL, _⟩ := id hn
    refine h _ ⟨I.ok, I.os, I.bare, ⟨fun b o e n hb hx => ?_, fun b o e n hb hx => ?_, I.base.free, fun b o e hx => ?_, I.base.tups, I.base.frzs, I.base.tbls⟩, ⟨_, hn', fun j y v' e1 e2 e3 => ?_⟩, fun y c e => ?_, I.free, I.freeC, fun p hp => ?_, tracked ⟨oL, hoL, I.free⟩ hs, by simpa using I.len⟩ ⟨_, hs, .inl rfl⟩
    · exact (hs.2 b (Nat.ne_of_lt (Nat.lt_of_lt_of_le (Heap.lt_size e) I.ok.above))).trans (I.base.keep b o e n hb hx)
    · obtain ⟨sl, e1⟩ := I.base.slot b o e n hb hx
      exact ⟨sl, (hs.2 b (Nat.ne_of_lt (Nat.lt_of_lt_of_le (Heap.lt_size e) I.ok.above))).trans e1⟩
    · obtain ⟨o', e1⟩ := I.base.there b o e hx
      exact ⟨o', (hs.2 b (Nat.ne_of_lt (Nat.lt_of_lt_of_le (Heap.lt_size e) I.ok.above))).trans e1⟩
    · by_cases hj : j = i
      · subst hj
        rw [hi] at e1; cases e1
        rw [List.getElem?_set_self hiσ] at e2
        cases e2
        exact ⟨u, r, .inl ⟨hk, by simp⟩⟩
      · rw [List.getElem?_set_ne (Ne.symm hj)] at e2
        obtain ⟨u', r', q⟩ := hl j y v' e1 e2 e3
        refine ⟨u', r', ?_⟩
        rcases q with ⟨k, e⟩ | ⟨k, c, e, z⟩
        · refine .inl ⟨k, ?_⟩
          have : y ≠ x := fun e => hj (nodup_ix hN e1 (e ▸ hi))
          simp [this, e]
        · exact .inr ⟨k, c, e, z.sameBut hs (cne y c e)⟩
    · obtain ⟨w', z⟩ := I.cell y c e
      exact ⟨w', z.sameBut hs (cne y c e)⟩
    · obtain ⟨e, n, ne, nf, d⟩ := I.pin p hp
      exact ⟨(hs.2 p.1 ne).trans e, n, ne, nf, d⟩
  · have hfn : X.fn x = true := by
      rcases hf with z | z
      · exact z
      · rw [z] at hk; cases hk
    obtain ⟨c, hc⟩ := I.ok.has x (.inl hk)
    obtain ⟨w', z⟩ := I.cell x c hc
    refine wpAny_storeName_cell I.ok.kind hk hc z (fun h' hc' hs => ?_)
    obtain ⟨oc, hoc, hocd⟩ := id z
    refine h { s with heap := h' } ⟨I.ok, I.os, I.bare, ⟨fun b o e n hb hx => ?_, fun b o e n hb hx => ?_, I.base.free, fun b o e hx => ?_, I.base.tups, I.base.frzs, I.base.tbls⟩, ⟨m, hn.sameBut hs (Ne.symm (cne x c hc)), fun j y v' e1 e2 e3 => ?_⟩, fun y c' e => ?_, I.free, I.freeC, fun p hp => ?_, tracked ⟨oc, hoc, I.freeC x c hc⟩ hs, by simpa using I.len⟩ ⟨c, hs, .inr hc⟩
    · exact (hs.2 b (Nat.ne_of_lt (Nat.lt_of_lt_of_le (Heap.lt_size e) (I.ok.cab x c hfn hc)))).trans (I.base.keep b o e n hb hx)
    · obtain ⟨sl, e1⟩ := I.base.slot b o e n hb hx
      exact ⟨sl, (hs.2 b (Nat.ne_of_lt (Nat.lt_of_lt_of_le (Heap.lt_size e) (I.ok.cab x c hfn hc)))).trans e1⟩
    · obtain ⟨o', e1⟩ := I.base.there b o e hx
      exact ⟨o', (hs.2 b (Nat.ne_of_lt (Nat.lt_of_lt_of_le (Heap.lt_size e) (I.ok.cab x c hfn hc)))).trans e1⟩
    · by_cases hj : j = i
      · subst hj
        rw [hi] at e1; cases e1
        rw [List.getElem?_set_self hiσ] at e2
        cases e2
        exact ⟨u, r, .inr ⟨.inl hk, c, hc, hc'⟩⟩
      · rw [List.getElem?_set_ne (Ne.symm hj)] at e2
        obtain ⟨u', r', q⟩ := hl j y v' e1 e2 e3
        refine ⟨u', r', ?_⟩
        rcases q with q | ⟨k, c', e, z'⟩
        · exact .inl q
        · refine .inr ⟨k, c', e, z'.sameBut hs ?_⟩
          rintro rfl
          exact hj (nodup_ix hN e1 (I.ok.inj _ _ _ e hc ▸ hi))
    · by_cases hcc : c' = c
      · subst hcc; exact ⟨_, hc'⟩
      · obtain ⟨w2, z2⟩ := I.cell y c' e
        exact ⟨w2, z2.sameBut hs hcc⟩
    · obtain ⟨e, n, ne, nf, d⟩ := I.pin p hp
      refine ⟨(hs.2 p.1 ?_).trans e, n, ne, nf, d⟩
      intro q
      rw [q, hoc] at e
      have q' : oc = p.2 := Option.some.inj e
      exact d w' (by rw [← q']; exact hocd)
theorem store_ok {M : Model} {A : Around} {E : Value → Shared → Prop} {i : Nat} {x : Str} {v : V} {u : Value} {Q : Unit → Shared → Prop} (I : Inv X pins σ H s) (hN : X.N.Nodup) (hi : X.N[i]? = some x) (hx : Loc X.env.scope x) (r : RelV v u)
    (h : ∀ s', Inv X pins (σ.set i (some v)) H s' → Q () s') (hf : X.fn x = true ∨ X.env.scope.names.lookup x = some .local := by first | exact .inl rfl | exact .inr rfl | assumption) : wpAny M A (storeName X.env x u) Q E s :=
  store_ok2 I hN hi hx r (fun s' I' _ => h s' I') hf
/-- behind a call or a block, the state as it is -/
theorem Inv.call' {s' : Shared} {ch : List Addr} (I : Inv X pins σ H s) (ho : s'.os = s.os) (u : Un (frs X.stack) ch H H' s.heap s'.heap) (hok : HOk X.prog X.w H' s'.heap) (hg : AllBare s'.gens)
    (hch : ∀ b ∈ ch, (b ∈ X.ex ∨ X.s₀.heap.objs.size ≤ b) ∧ b ≠ X.env.locals ∧ (∀ x c, X.env.cells.lookup x = some c → c ≠ b) ∧ ∀ p ∈ X.pn ++ pins, p.1 ≠ b) : Inv X pins σ H' s' := by
  obtain ⟨h', g', d', t', o'⟩ := s'
  have e : o' = s.os := ho
  subst e
  exact I.call (g' := g') (t' := t') (d' := d') u hok hg hch
end

/-! ### the judgements -/
/-- an exception: its class, its own dict's address (where it has one), the abstract heap behind it -/
abbrev XK := Value → Option Addr → Hp → Prop
abbrev St := List (Option V)
abbrev VK := V → Hp → Prop
/-- an expression's reading; a test's; an argument list's -/
abbrev TE := St → Hp → VK → Prop
abbrev TT := St → Hp → (Bool → Hp → Prop) → Prop
abbrev TA := St → Hp → (List V → Hp → Prop) → Prop
/-- what is wanted behind a statement -/
structure Ends where
  nx : St → Hp → Prop
  rt : VK
  bk : St → Hp → Prop := fun _ _ => False
  ct : St → Hp → Prop := fun _ _ => False
abbrev TS := Ends → St → Hp → Prop

def EP (X : Cx) (pins : List (Addr × Obj)) (σ : St) (Q : VK) (u : Value) (s' : Shared) : Prop := ∃ v H', Inv X pins σ H' s' ∧ RelV v u ∧ Q v H'
def TP (X : Cx) (pins : List (Addr × Obj)) (σ : St) (Q : Bool → Hp → Prop) (b : Bool) (s' : Shared) : Prop := ∃ H', Inv X pins σ H' s' ∧ Q b H'
def AP (X : Cx) (pins : List (Addr × Obj)) (σ : St) (Q : List V → Hp → Prop) (us : List Value) (s' : Shared) : Prop := ∃ vs H', Inv X pins σ H' s' ∧ Vals vs us ∧ Q vs H'
def SP (X : Cx) (pins : List (Addr × Obj)) (D : Ends) (f : Flow) (s' : Shared) : Prop :=
  match f with
  | .next => ∃ σ' H', Inv X pins σ' H' s' ∧ D.nx σ' H'
  | .brk => ∃ σ' H', Inv X pins σ' H' s' ∧ D.bk σ' H'
  | .cont => ∃ σ' H', Inv X pins σ' H' s' ∧ D.ct σ' H'
  | .ret u => ∃ v σ' H', Inv X pins σ' H' s' ∧ RelV v u ∧ D.rt v H'

def PE (X : Cx) (e : Expr) (t : TE) : Prop :=
  ∀ (pins : List (Addr × Obj)) (s : Shared) (σ : St) (H : Hp) (Q : VK), Inv X pins σ H s → t σ H Q → wpAny (model X.prog X.w) X.A (eval e X.env) (EP X pins σ Q) X.xe s
def PT (X : Cx) (e : Expr) (t : TT) : Prop :=
  ∀ (pins : List (Addr × Obj)) (s : Shared) (σ : St) (H : Hp) (Q : Bool → Hp → Prop), Inv X pins σ H s → t σ H Q → wpAny (model X.prog X.w) X.A (isTrue e X.env (eval e X.env)) (TP X pins σ Q) X.xe s
/-- a test whatever its 'whole' is (and, or) -/
def PW (X : Cx) (e : Expr) (t : TT) : Prop :=
  ∀ (whole : Sem Value) (pins : List (Addr × Obj)) (s : Shared) (σ : St) (H : Hp) (Q : Bool → Hp → Prop), Inv X pins σ H s → t σ H Q → wpAny (model X.prog X.w) X.A (isTrue e X.env whole) (TP X pins σ Q) X.xe s
theorem PW.pt {X : Cx} {e : Expr} {t : TT} (h : PW X e t) : PT X e t := h _
/-- an argument list (no star), from the left -/
def PA (X : Cx) (es : List Expr) (t : TA) : Prop :=
  ∀ (pos : Pos) (pins : List (Addr × Obj)) (s : Shared) (σ : St) (H : Hp) (Q : List V → Hp → Prop), Inv X pins σ H s → t σ H Q → wpAny (model X.prog X.w) X.A (spliced (backTo pos (starEach es X.env))) (AP X pins σ Q) X.xe s
def PS (X : Cx) (st : Stmt) (t : TS) : Prop :=
  ∀ (pins : List (Addr × Obj)) (s : Shared) (σ : St) (H : Hp) (D : Ends), Inv X pins σ H s → t D σ H → wpAny (model X.prog X.w) X.A (exec st X.env) (SP X pins D) X.xe s
def PSs (X : Cx) (st : List Stmt) (t : TS) : Prop :=
  ∀ (pins : List (Addr × Obj)) (s : Shared) (σ : St) (H : Hp) (D : Ends), Inv X pins σ H s → t D σ H → wpAny (model X.prog X.w) X.A (execs st X.env) (SP X pins D) X.xe s
/-- weaken the end -/
theorem thn {α : Type} {t : Sem α} {Q Q' : α → Shared → Prop} {M : Model} {A : Around} {E : Value → Shared → Prop} {s : Shared} (h : wpAny M A t Q E s) (hQ : ∀ a s, Q a s → Q' a s) : wpAny M A t Q' E s := wpAny_mono h hQ fun _ _ x => x
end L2

namespace L2
open PySem PySem.Spec PyProof.Rows
section
variable {X : Cx}


/-! ### names and constants -/
def tVar (i : Nat) : TE := fun σ H Q => ∃ v, σ[i]? = some (some v) ∧ Q v H
def tC (v : V) : TE := fun _ H Q => Q v H
theorem pe_var {i : Nat} {x : Str} {pos : Pos} (hN : X.N[i]? = some x) (hv : Vis X.env.scope x) (hd : (x == ("__debug__" : Str)) = false := by decide) (hcd : (x == ("__classdict__" : Str)) = false := by decide) : PE X (.Name x pos) (tVar i) := by
  intro pins s σ H Q I h
  obtain ⟨v, e, h⟩ := h
  obtain ⟨m, hn, hl⟩ := I.loc
  obtain ⟨u, r, l⟩ := hl i x v hN e hv
  have fin : EP X pins σ Q u s := ⟨v, H, I, r, h⟩
  rcases l with ⟨hk, hm⟩ | ⟨hk, c, hc, hcell⟩
  · exact wpAny_Name (wpAny_loadName_local I.ok.kind hk hn hm fin) hd
  · rcases hk with hk | hk
    · exact wpAny_Name (wpAny_loadName_cell I.ok.kind hk hc hcell fin) hd
    · exact wpAny_Name (wpAny_loadName_free I.ok.kind hk hc hcell fin hcd) hd
theorem pe_int {i j pos} : PE X (.Constant (.int i) j pos) (tC (.int i)) := fun _ _ _ H _ I h => wpAny_Constant_int ⟨.int i, H, I.tok _, ⟨_, rfl⟩, h⟩
theorem pe_bl {b j pos} : PE X (.Constant (.bool b) j pos) (tC (.bl b)) := fun _ _ _ H _ I h => Constant_bool ⟨.bl b, H, I, rfl, h⟩

/-- a global name of the def -/
def Gl (X : Cx) (x : Str) : Prop := X.env.kindOf x = some .globalImplicit
theorem ld_glob {E : Value → Shared → Prop} {pins : List (Addr × Obj)} {s : Shared} {σ : St} {H : Hp} {x : Str} {u : Value} {pos : Pos} {Q : Value → Shared → Prop} (I : Inv X pins σ H s) (hg : Gl X x) (hm : X.mg x = some u) (h : Q u s)
    (hd : (x == ("__debug__" : Str)) = false := by decide) : wpAny (model X.prog X.w) X.A (eval (.Name x pos) X.env) Q E s :=
  Calls.Name_function_global I.ok.kind hg (Calls.loadGlobal_global (by rw [I.ok.glob]; exact I.mod.glob.keeps I.bk) hm h) hd
theorem ld_blt {E : Value → Shared → Prop} {pins : List (Addr × Obj)} {s : Shared} {σ : St} {H : Hp} {x : Str} {u : Value} {pos : Pos} {Q : Value → Shared → Prop} (I : Inv X pins σ H s) (hg : Gl X x) (hm : X.mg x = none) (hv : bootBuiltins x = some u) (h : Q u s)
    (hn : x ≠ "__name__" := by decide) (hd : (x == ("__debug__" : Str)) = false := by decide) : wpAny (model X.prog X.w) X.A (eval (.Name x pos) X.env) Q E s := by
  obtain ⟨mb, h1, h2⟩ := I.mod.blt
  exact Calls.Name_function_global I.ok.kind hg (Calls.loadGlobal_builtin (by rw [I.ok.glob]; exact I.mod.glob.keeps I.bk) hm (by rw [I.ok.blt]; exact h1.keeps I.bk) ((h2 x hn).trans hv) h) hd

/-! ### arithmetic -/
/-- two ints -/
def t2I (ta tb : TE) (k : Int → Int → Hp → Prop) : St → Hp → Prop := fun σ H => ta σ H fun x H1 => tb σ H1 fun y H2 => ∃ i j, x = .int i ∧ y = .int j ∧ k i j H2
def tAdd (ta tb : TE) : TE := fun σ H Q => t2I ta tb (fun i j H2 => Q (.int (i + j)) H2) σ H
def tSub (ta tb : TE) : TE := fun σ H Q => t2I ta tb (fun i j H2 => Q (.int (i - j)) H2) σ H
/-- the left factor below 2^64 -/
def tMul (ta tb : TE) : TE := fun σ H Q => t2I ta tb (fun i j H2 => (-(2 ^ 64) < i ∧ i < 2 ^ 64) ∧ Q (.int (i * j)) H2) σ H
variable {a b : Expr} {ta tb : TE} {pos : Pos}

/-! ### comparisons -/
def PC (X : Cx) (op : CmpOp) (a b : Expr) (t : TE) : Prop :=
  ∀ (pins : List (Addr × Obj)) (s : Shared) (σ : St) (H : Hp) (Q : VK), Inv X pins σ H s → t σ H Q →
    wpAny (model X.prog X.w) X.A (eval a X.env) (fun v s₁ => wpAny (model X.prog X.w) X.A (eval b X.env) (fun u s₂ => wpAny (model X.prog X.w) X.A (compareOp op v u) (EP X pins σ Q) X.xe s₂) X.xe s₁) X.xe s
def tCmp (p : Int → Int → Bool) (ta tb : TE) : TE := fun σ H Q => t2I ta tb (fun i j H2 => Q (.bl (p i j)) H2) σ H
abbrev tLt : TE → TE → TE := tCmp fun i j => decide (i < j)
abbrev tLe : TE → TE → TE := tCmp fun i j => decide (i ≤ j)
abbrev tGt : TE → TE → TE := tCmp fun i j => decide (j < i)
abbrev tGe : TE → TE → TE := tCmp fun i j => decide (j ≤ i)
abbrev tEqI : TE → TE → TE := tCmp fun i j => decide (i = j)
abbrev tNeI : TE → TE → TE := tCmp fun i j => !decide (i = j)
/-- is None -/
def tIsN (ta : TE) : TE := fun σ H Q => ta σ H fun x H1 => Q (.bl (decide (x = .non))) H1
def tNotN (ta : TE) : TE := fun σ H Q => ta σ H fun x H1 => Q (.bl (!decide (x = .non))) H1
/-- a comparison as a value, as a test -/
def tB (t : TE) : TT := fun σ H Q => t σ H fun x H1 => ∃ c, x = .bl c ∧ Q c H1
/-- an expression whose value is a bool, as a test -/
theorem pt_val {e : Expr} {t : TE} (h : PE X e t) (he : ∀ whole, isTrue e X.env whole = (do let v ← whole; standAt e.pos; holding [v] (truthy v)) := by intro _; rfl) : PT X e (tB t) := by
  intro pins s σ H Q I hw
  refine isTrue_plain (thn (h pins s σ H _ I hw) fun v s1 ⟨x, H1, I1, r1, q1⟩ => ?_) (he _)
  obtain ⟨d, rfl, q⟩ := q1
  cases r1
  exact wpAny_truthy_bool ⟨H1, I1, q⟩

/-! ### and, or, not -/
variable {tA tB' : TT} {rest : List Expr}
def tAnd (t u : TT) : TT := fun σ H Q => t σ H fun c H1 => if c = true then u σ H1 Q else Q false H1
def tOr (t u : TT) : TT := fun σ H Q => t σ H fun c H1 => if c = true then Q true H1 else u σ H1 Q
def tNot (t : TT) : TT := fun σ H Q => t σ H fun c H1 => Q (!c) H1
theorem pw_and1 (ha : PT X a tA) : PW X (.BoolOp .And [a] pos) tA := by
  intro wh pins s σ H Q I h
  refine isTrue_and (thn (ha pins s σ H Q I h) fun c s1 e => ?_)
  cases c with
  | true => exact isTrue_and_nil e
  | false => exact e
theorem pw_or1 (ha : PT X a tA) : PW X (.BoolOp .Or [a] pos) tA := by
  intro wh pins s σ H Q I h
  refine isTrue_or (thn (ha pins s σ H Q I h) fun c s1 e => ?_)
  cases c with
  | false => exact isTrue_or_nil e
  | true => exact e
theorem pw_and (ha : PT X a tA) (hb : PW X (.BoolOp .And (b :: rest) pos) tB') : PW X (.BoolOp .And (a :: b :: rest) pos) (tAnd tA tB') := by
  intro wh pins s σ H Q I h
  refine isTrue_and (thn (ha pins s σ H _ I h) fun c s1 ⟨H1, I1, q1⟩ => ?_)
  cases c with
  | true => exact hb wh pins s1 σ H1 Q I1 q1
  | false => exact ⟨H1, I1, q1⟩
theorem pw_or (ha : PT X a tA) (hb : PW X (.BoolOp .Or (b :: rest) pos) tB') : PW X (.BoolOp .Or (a :: b :: rest) pos) (tOr tA tB') := by
  intro wh pins s σ H Q I h
  refine isTrue_or (thn (ha pins s σ H _ I h) fun c s1 ⟨H1, I1, q1⟩ => ?_)
  cases c with
  | true => exact ⟨H1, I1, q1⟩
  | false => exact hb wh pins s1 σ H1 Q I1 q1
/-- .. as values (bools) -/
def tAndV (ta tb : TE) : TE := fun σ H Q => ta σ H fun x H1 => ∃ c, x = .bl c ∧ if c = true then tb σ H1 Q else Q (.bl false) H1
def tOrV (ta tb : TE) : TE := fun σ H Q => ta σ H fun x H1 => ∃ c, x = .bl c ∧ if c = true then Q (.bl true) H1 else tb σ H1 Q
def tNotV (ta : TE) : TE := fun σ H Q => ta σ H fun x H1 => ∃ c, x = .bl c ∧ Q (.bl (!c)) H1
theorem pe_one {op} {t : TE} (h : PE X a t) : PE X (.BoolOp op [a] pos) t := fun pins s σ H Q I hw => BoolOp_one (h pins s σ H Q I hw)
theorem pe_and (ha : PE X a ta) (hb : PE X (.BoolOp .And (b :: rest) pos) tb) : PE X (.BoolOp .And (a :: b :: rest) pos) (tAndV ta tb) := by
  intro pins s σ H Q I h
  refine BoolOp_and (thn (ha pins s σ H _ I h) fun v s1 ⟨x, H1, I1, r1, q1⟩ => ?_)
  obtain ⟨c, rfl, q1⟩ := q1
  cases r1
  refine wpAny_truthy_bool ?_
  cases c with
  | true => exact hb pins s1 σ H1 Q I1 q1
  | false => exact ⟨.bl false, H1, I1, rfl, q1⟩
/-- a if t else b -/
def tIf (t : TT) (ta tb : TE) : TE := fun σ H Q => t σ H fun c H1 => if c = true then ta σ H1 Q else tb σ H1 Q
end
end L2

namespace L2
open PySem PySem.Spec PyProof.Rows

/-! ### a list, a tuple that is read: tracked, frozen, or an object of the module -/
def SqL (K : PySem.W.Frag) (H : Hp) (a : Addr) (xs : List V) : Prop :=
  Rd H a (.lst xs) ∨
    ∃ (o : Obj) (its : Array Value) (n : Nat), K.lookup a = some o ∧ o.cls = .type "list" ∧ o.dict = none ∧ o.data = .seq its n ∧ its.size ≤ sizeLine ∧ Vals xs its.toList
def SqT (K : PySem.W.Frag) (H : Hp) (a : Addr) (xs : List V) : Prop :=
  Rd H a (.tup xs) ∨
    ∃ (o : Obj) (its : Array Value) (n : Nat), K.lookup a = some o ∧ o.cls = .type "tuple" ∧ o.data = .seq its n ∧ its.size ≤ sizeLine ∧ Vals xs its.toList
def absV : Value → Option V
  | .none => some .non
  | .bool b => some (.bl b)
  | .int i _ => some (.int i)
  | .str x _ => some (.str x)
  | .bytes b _ => some (.byt b)
  | .float b _ => some (.flt b)
  | .ref a => some (.ref a)
  | .type n => some (.ty n)
  | _ => none
theorem RelV.abs {x : V} {u : Value} (r : RelV x u) : absV u = some x := by
  cases x with
  | non => cases r; rfl
  | bl _ => cases r; rfl
  | int _ => obtain ⟨t, rfl⟩ := r; rfl
  | str _ => obtain ⟨t, rfl⟩ := r; rfl
  | byt _ => obtain ⟨t, rfl⟩ := r; rfl
  | flt _ => obtain ⟨t, rfl⟩ := r; rfl
  | ref _ => cases r; rfl
  | ty _ => cases r; rfl
theorem RelV.inj {x y : V} {u : Value} (r : RelV x u) (q : RelV y u) : x = y := Option.some.inj (r.abs.symm.trans q.abs)
theorem Vals.inj : ∀ {xs ys : List V} {us : List Value}, Vals xs us → Vals ys us → xs = ys
  | _, _, _, .nil, .nil => rfl
  | _, _, _, .cons r t, .cons r' t' => by rw [r.inj r', Vals.inj t t']
section
variable {X : Cx} {pins : List (Addr × Obj)} {σ : St} {H : Hp} {s : Shared} {a : Addr} {xs ys : List V}
theorem SqL.of {K : PySem.W.Frag} (h : H a = some (.lst xs)) : SqL K H a xs := .inl (.inl h)
theorem SqT.of {K : PySem.W.Frag} (h : H a = some (.tup xs)) : SqT K H a xs := .inl (.inl h)
theorem Inv.list (I : Inv X pins σ H s) (h : SqL X.K H a xs) : ∃ its : List Value, Vals xs its ∧ PlainL s.heap a its.toArray ∧ xs.length ≤ sizeLine := by
  rcases h with h | ⟨o, its, n, hk, hc, hd, hs, hz, r⟩
  · obtain ⟨z, its, n, r, e⟩ := h.ok I.hok
    exact ⟨its, r, ⟨_, n, e, rfl, rfl, rfl⟩, z⟩
  · refine ⟨its.toList, r, ⟨o, n, I.kIn a o hk, hc, hd, by simpa using hs⟩, ?_⟩
    have e := r.length
    simp only [Array.length_toList] at e
    omega
theorem Inv.tuple (I : Inv X pins σ H s) (h : SqT X.K H a xs) : ∃ its : List Value, Vals xs its ∧ IsTup s.heap a its.toArray ∧ xs.length ≤ sizeLine := by
  rcases h with h | ⟨o, its, n, hk, hc, hs, hz, r⟩
  · obtain ⟨z, its, r, p⟩ := h.ok I.hok
    exact ⟨its, r, p, z⟩
  · refine ⟨its.toList, r, ⟨o, I.kIn a o hk, hc, n, by simpa using hs⟩, ?_⟩
    have e := r.length
    simp only [Array.length_toList] at e
    omega
theorem Inv.list_inj (I : Inv X pins σ H s) (h : SqL X.K H a xs) (h' : SqL X.K H a ys) : xs = ys := by
  obtain ⟨its, r, ⟨o, n, e, _, _, d⟩, _⟩ := I.list h
  obtain ⟨its', r', ⟨o', n', e', _, _, d'⟩, _⟩ := I.list h'
  rw [e] at e'; cases e'
  rw [d] at d'
  injection d' with d1 _
  have : its = its' := by simpa using congrArg Array.toList d1
  subst this
  exact r.inj r'
end

/-! ### another wish about exceptions -/
abbrev Cx.wish (X : Cx) (E : Value → Shared → Prop) : Cx := { X with xe := E }
/-- no exception leaves -/
abbrev Cx.nox (X : Cx) : Cx := X.wish fun _ _ => False
theorem Cx.Ok.wish {X : Cx} (ok : X.Ok) (E : Value → Shared → Prop) : (X.wish E).Ok :=
  ⟨ok.mod, ok.kind, ok.glob, ok.blt, ok.above, ok.inj, ok.has, ok.cab, ok.hd, ok.frames, ok.stk, ok.exf, ok.bs, ok.bsz, ok.noex, ok.exfs, ok.funs, ok.frf⟩
theorem Cx.Ok.unwish {X : Cx} {E : Value → Shared → Prop} (ok : (X.wish E).Ok) : X.Ok :=
  ⟨ok.mod, ok.kind, ok.glob, ok.blt, ok.above, ok.inj, ok.has, ok.cab, ok.hd, ok.frames, ok.stk, ok.exf, ok.bs, ok.bsz, ok.noex, ok.exfs, ok.funs, ok.frf⟩
section
variable {X : Cx} {pins : List (Addr × Obj)} {σ : St} {H : Hp} {s : Shared} {E : Value → Shared → Prop}
theorem Inv.wish (I : Inv X pins σ H s) (E : Value → Shared → Prop) : Inv (X.wish E) pins σ H s := ⟨I.ok.wish E, I.os, I.bare, I.base, I.loc, I.cell, I.free, I.freeC, I.pin, I.hok, I.len⟩
theorem Inv.unwish (I : Inv (X.wish E) pins σ H s) : Inv X pins σ H s := ⟨I.ok.unwish, I.os, I.bare, I.base, I.loc, I.cell, I.free, I.freeC, I.pin, I.hok, I.len⟩
theorem SP.unwish {D : Ends} {f : Flow} {s' : Shared} (h : SP (X.wish E) pins D f s') : SP X pins D f s' := by
  cases f with
  | next => obtain ⟨σ', H', I, q⟩ := h; exact ⟨σ', H', I.unwish, q⟩
  | brk => obtain ⟨σ', H', I, q⟩ := h; exact ⟨σ', H', I.unwish, q⟩
  | cont => obtain ⟨σ', H', I, q⟩ := h; exact ⟨σ', H', I.unwish, q⟩
  | ret u => obtain ⟨v, σ', H', I, r, q⟩ := h; exact ⟨v, σ', H', I.unwish, r, q⟩
theorem PSs.nox {st : List Stmt} {t : TS} (h : PSs X.nox st t) : PSs X st t := fun pins s σ H D I hw =>
  wpAny_mono (h pins s σ H D (I.wish _) hw) (fun _ _ q => q.unwish) fun _ _ z => False.elim z
end

/-! ### blocks and small statements -/
section
variable {X : Cx} {st : Stmt} {rest : List Stmt} {t u : TS} {e : Expr} {te : TE} {pos : Pos}
def tNext : TS := fun D σ H => D.nx σ H
def tSeq (t u : TS) : TS := fun D σ H => t { D with nx := u D } σ H
theorem pss_nil : PSs X [] tNext := fun _ _ σ H _ I h => wpAny_execs_nil ⟨σ, H, I, h⟩
theorem pss_cons (h1 : PS X st t) (h2 : PSs X rest u) : PSs X (st :: rest) (tSeq t u) := by
  intro pins s σ H D I h
  refine wpAny_execs_cons (thn (h1 pins s σ H { D with nx := u D } I h) fun f s1 q => ?_)
  cases f with
  | next =>
    obtain ⟨σ', H', I', q⟩ := q
    exact h2 pins s1 σ' H' D I' q
  | ret v => exact q
  | brk => exact q
  | cont => exact q
theorem pss_one (h1 : PS X st t) : PSs X [st] t := by
  intro pins s σ H D I h
  refine wpAny_execs_cons (thn (h1 pins s σ H D I h) fun f s1 q => ?_)
  cases f with
  | next => exact wpAny_execs_nil q
  | ret v => exact q
  | brk => exact q
  | cont => exact q
def tBreak : TS := fun D σ H => D.bk σ H
def tCont : TS := fun D σ H => D.ct σ H
/-- in a def's body nothing is shown -/
theorem Inv.quiet {pins : List (Addr × Obj)} {σ : St} {H : Hp} {s : Shared} (I : Inv X pins σ H s) : interactive X.env = false := by simp [interactive, I.ok.kind]
/-- an expression whose value is dropped -/
def tDrop (te : TE) : TS := fun D σ H => te σ H fun _ H1 => D.nx σ H1
theorem ps_expr (he : PE X e te) (hs : swapsWith e none pos.line X.env = pure false := by rfl) : PS X (.Expr e pos) (tDrop te) := by
  intro pins s σ H D I h
  exact wpAny_Expr_any (thn (he pins s σ H _ I h) fun v s1 ⟨x, H1, I1, r1, q1⟩ => ⟨σ, H1, I1, q1⟩) I.quiet hs
def tRet (te : TE) : TS := fun D σ H => te σ H D.rt
theorem ps_ret (he : PE X e te) : PS X (.Return (some e) pos) (tRet te) := by
  intro pins s σ H D I h
  exact wpAny_Return_some (thn (he pins s σ H _ I h) fun v s1 ⟨x, H1, I1, r1, q1⟩ => ⟨x, σ, H1, I1, r1, q1⟩)
def tRetN : TS := fun D _ H => D.rt .non H
def tIfS (c : TT) (t u : TS) : TS := fun D σ H => c σ H fun b H1 => if b = true then t D σ H1 else u D σ H1
theorem ps_if {c : Expr} {a b : List Stmt} {tc : TT} (hc : PT X c tc) (ha : PSs X a t) (hb : PSs X b u) : PS X (.If c a b pos) (tIfS tc t u) := by
  intro pins s σ H D I h
  refine wpAny_If (thn (hc pins s σ H _ I h) fun d s1 ⟨H1, I1, q1⟩ => ?_)
  cases d with
  | true => exact ha pins s1 σ H1 D I1 q1
  | false => exact hb pins s1 σ H1 D I1 q1
/-- code that the proof never comes to -/
def tNever : TS := fun _ _ _ => False
end

/-! ### targets -/
abbrev TG := V → St → Hp → (St → Hp → Prop) → Prop
abbrev TGs := List V → St → Hp → (St → Hp → Prop) → Prop
def PG (X : Cx) (target : Expr) (t : TG) : Prop :=
  ∀ (pins : List (Addr × Obj)) (s : Shared) (σ : St) (H : Hp) (v : V) (u : Value) (Q : St → Hp → Prop), Inv X pins σ H s → RelV v u → t v σ H Q →
    wpAny (model X.prog X.w) X.A (assign target X.env u) (fun _ s' => ∃ σ' H', Inv X pins σ' H' s' ∧ Q σ' H') X.xe s
/-- several targets, one after another -/
def PGs (X : Cx) (ts : List Expr) (t : TGs) : Prop :=
  ∀ (pins : List (Addr × Obj)) (s : Shared) (σ : St) (H : Hp) (vs : List V) (us : List Value) (Q : St → Hp → Prop), Inv X pins σ H s → Vals vs us → t vs σ H Q →
    wpAny (model X.prog X.w) X.A (assignInOrder ((assignEach ts X.env).map (·.2)) us) (fun _ s' => ∃ σ' H', Inv X pins σ' H' s' ∧ Q σ' H') X.xe s
/-- o[i] = v, by values -/
abbrev TSet := V → V → V → Hp → (Hp → Prop) → Prop
def PSet (X : Cx) (t : TSet) : Prop :=
  ∀ (pins : List (Addr × Obj)) (s : Shared) (σ : St) (H : Hp) (o i v : V) (ov iv u : Value) (Q : Hp → Prop), Inv X pins σ H s → RelV o ov → RelV i iv → RelV v u → t o i v H Q →
    wpAny (model X.prog X.w) X.A (setItem ov iv u) (fun _ s' => ∃ H', Inv X pins σ H' s' ∧ Q H') X.xe s
/-- a op= b, by values -/
abbrev TIp := V → V → Hp → VK → Prop
def PIp (X : Cx) (op : Operator) (t : TIp) : Prop :=
  ∀ (pins : List (Addr × Obj)) (s : Shared) (σ : St) (H : Hp) (x y : V) (v u : Value) (Q : VK), Inv X pins σ H s → RelV x v → RelV y u → t x y H Q →
    wpAny (model X.prog X.w) X.A (inplaceOp op v u) (EP X pins σ Q) X.xe s
section
variable {X : Cx} {pos : Pos}
def gName (i : Nat) : TG := fun v σ H Q => Q (σ.set i (some v)) H
theorem pg_name {i : Nat} {x : Str} (hN : X.N.Nodup) (hi : X.N[i]? = some x) (hx : Loc X.env.scope x) (hf : X.fn x = true ∨ X.env.scope.names.lookup x = some .local := by first | exact .inl rfl | exact .inr rfl | assumption) : PG X (.Name x pos) (gName i) := by
  intro pins s σ H v u Q I r h
  exact wpAny_assign_Name (store_ok I hN hi hx r (fun s' I' => ⟨_, H, I', h⟩) hf)
def gNil : TGs := fun vs σ H Q => vs = [] ∧ Q σ H
def gCons (t : TG) (u : TGs) : TGs := fun vs σ H Q => ∃ v r, vs = v :: r ∧ t v σ H fun σ' H' => u r σ' H' Q
theorem pgs_nil : PGs X [] gNil := by
  intro pins s σ H vs us Q I r h
  obtain ⟨e, h⟩ := h
  subst e
  cases r
  exact assignInOrder_nil ⟨σ, H, I, h⟩
theorem pgs_cons {e : Expr} {es : List Expr} {t : TG} {u : TGs} (h1 : PG X e t) (h2 : PGs X es u)
    (hs : (assignEach (e :: es) X.env).map (·.2) = assign e X.env :: (assignEach es X.env).map (·.2) := by rfl) : PGs X (e :: es) (gCons t u) := by
  intro pins s σ H vs us Q I r h
  obtain ⟨v, vr, e1, h⟩ := h
  subst e1
  cases r with
  | cons r rr =>
    rw [hs]
    refine assignInOrder_cons (thn (h1 pins s σ H _ _ _ I r h) fun _ s1 ⟨σ1, H1, I1, q1⟩ => ?_)
    exact h2 pins s1 σ1 H1 _ _ Q I1 rr q1
/-- (a, b, ..) = a tuple of that length -/
def gTup (K : PySem.W.Frag) (n : Nat) (t : TGs) : TG := fun v σ H Q => ∃ a xs, v = .ref a ∧ SqT K H a xs ∧ xs.length = n ∧ t xs σ H Q
theorem pg_tup {es : List Expr} {k : Nat} {t : TGs} {n : Nat} (hc : X.calm = true) (h : PGs X es t)
    (hn : (assignEach es X.env).length = n := by rfl) (hst : (assignEach es X.env).findIdx? (·.1) = none := by rfl) : PG X (.Tuple es k pos) (gTup X.K n t) := by
  intro pins s σ H v u Q I r hw
  obtain ⟨a, xs, e1, hq, hl, hw⟩ := hw
  subst e1
  cases r
  obtain ⟨its, rv, ht, hz⟩ := I.tuple hq
  refine assign_Tuple_tuple (I.ok.hd hc) ht (by simp [hn, ← hl, rv.length]) hst fun h' hx => ?_
  have I1 : Inv X pins σ H { s with heap := h' } := I.kept (t' := s.toks) fun b o e => hx b o (Nat.ne_of_lt (Heap.lt_size e)) e
  exact h pins _ σ H xs _ Q I1 (by simpa using rv) hw
/-- o[i] = .. -/
def gSub (to ti : TE) (t : TSet) : TG := fun v σ H Q => to σ H fun o H1 => ti σ H1 fun i H2 => t o i v H2 fun H3 => Q σ H3
/-- target = value -/
def tAsg (te : TE) (g : TG) : TS := fun D σ H => te σ H fun x H1 => g x σ H1 D.nx
/-- name = value -/
theorem ps_set {i : Nat} {x : Str} {e : Expr} {te : TE} {pos' : Pos} (hN : X.N.Nodup) (hi : X.N[i]? = some x) (hx : Loc X.env.scope x) (he : PE X e te) (hs : swapsWith e (some (.Name x pos')) pos.line X.env = pure false := by rfl) (hf : X.fn x = true ∨ X.env.scope.names.lookup x = some .local := by first | exact .inl rfl | exact .inr rfl | assumption) :
    PS X (.Assign [.Name x pos'] e pos) (tAsg te (gName i)) := by
  intro pins s σ H D I h
  refine wpAny_Assign_Name (thn (he pins s σ H _ I h) fun v s1 ⟨y, H1, I1, r1, q1⟩ => ?_) hs
  exact store_ok I1 hN hi hx r1 (fun s2 I2 => ⟨_, H1, I2, q1⟩) hf
/-- a, b = x, y with plain local names: stored from the right; the pair itself is not tracked (the opening rows as in PyProof/Rows/TupAssign.lean:23) -/
def tPar (i j : Nat) (ta : TA) : TS := fun D σ H => ta σ H fun vs H1 => ∃ v w, vs = [v, w] ∧ D.nx ((σ.set i (some v)).set j (some w)) H1
/-- name op= e -/
def tAug (i : Nat) (te : TE) (ti : TIp) : TS := fun D σ H => ∃ x, σ[i]? = some (some x) ∧ te σ H fun y H1 => ti x y H1 fun z H2 => D.nx (σ.set i (some z)) H2
/-- o[i] op= e -/
def tAugS (to ti te : TE) (tget : V → V → Hp → VK → Prop) (tip : TIp) (tset : TSet) : TS := fun D σ H => to σ H fun o H1 => ti σ H1 fun i H2 => tget o i H2 fun x H3 => te σ H3 fun y H4 => tip x y H4 fun z H5 => tset o i z H5 fun H6 => D.nx σ H6
/-- o[i], by values -/
def PGet (X : Cx) (t : V → V → Hp → VK → Prop) : Prop :=
  ∀ (pins : List (Addr × Obj)) (s : Shared) (σ : St) (H : Hp) (o i : V) (ov iv : Value) (Q : VK), Inv X pins σ H s → RelV o ov → RelV i iv → t o i H Q →
    wpAny (model X.prog X.w) X.A (getItem ov iv) (EP X pins σ Q) X.xe s
/-- ints -/
def ipI (f : Int → Int → Int) : TIp := fun x y H Q => ∃ i j, x = .int i ∧ y = .int j ∧ Q (.int (f i j)) H
end

/-! ### while -/
section
variable {X : Cx} {pos : Pos}
/-- the invariant W with its measure -/
def tWhile (c : TT) (tb : TS) : TS := fun D σ H => ∃ W : Nat → St → Hp → Prop, (∃ m, W m σ H) ∧ ∀ m σ H, W m σ H →
  c σ H fun b H1 => if b = true then ∃ N : St → Hp → Prop, (∀ σ' H', N σ' H' → ∃ m', m' < m ∧ W m' σ' H') ∧ tb { D with nx := N, ct := N, bk := D.nx } σ H1 else D.nx σ H1
end

/-! ### what a loop or a comprehension walks -/
/-- at turn i: it yields x (the heap may grow), or it stops -/
structure It where
  go : Nat → Hp → Prop
  yld : Nat → Hp → V → Hp → Prop
  stop : Nat → Hp → Prop
/-- the iterator's own objects may turn: they are not the frame's, not pinned, younger than the entry (or a comprehension's own) -/
def FpOk (X : Cx) (pins : List (Addr × Obj)) (H : Hp) (b : Addr) : Prop :=
  H b = none ∧ b ≠ X.env.locals ∧ b ∉ X.fs ∧ (b ∈ X.ex ∨ X.s₀.heap.objs.size ≤ b) ∧ (∀ x c, X.env.cells.lookup x = some c → c ≠ b) ∧ ∀ p ∈ X.pn ++ pins, p.1 ≠ b
theorem Inv.fpOk {X : Cx} {pins : List (Addr × Obj)} {σ : St} {H H' : Hp} {s : Shared} {b : Addr} (I : Inv X pins σ H s) (hb : s.heap.objs.size ≤ b) (hn : H' b = none) : FpOk X pins H' b := by
  refine ⟨hn, Nat.ne_of_gt (Nat.lt_of_lt_of_le I.lt hb), I.nofs hb, .inr (Nat.le_trans I.sz hb), fun x c e z => ?_, fun p hp z => ?_⟩
  · obtain ⟨v, q⟩ := I.cell x c e
    exact absurd (Nat.lt_of_lt_of_le q.lt (by rw [z]; exact hb)) (Nat.lt_irrefl _)
  · exact absurd (Nat.lt_of_lt_of_le (Heap.lt_size (I.pin p hp).1) (by rw [z]; exact hb)) (Nat.lt_irrefl _)
structure Turn (P : Program) (w : World) (K : PySem.W.Frag) (tg : Expr) (J : It) (fp : List Addr) (it : Addr) (tn : Nat → Heap → Prop) : Prop where
  mem : it ∈ fp
  obj : ∀ i h, tn i h → ∀ b ∈ fp, ∃ o, h.get? b = some o ∧ ∀ v, o.data ≠ .cell v
  keep : ∀ i h h', tn i h → (∀ b ∈ fp, ∀ o, h.get? b = some o → h'.get? b = some o) → tn i h'
  item : ∀ (X : Cx), X.prog = P → X.w = w → X.K = K → X.calm = true → ∀ (i : Nat) (pins : List (Addr × Obj)) (s : Shared) (σ : St) (H : Hp) (E : Value → Shared → Prop), Inv X pins σ H s → (∀ b ∈ fp, FpOk X pins H b) → tn i s.heap → J.go i H →
    wpAny (model P w) X.A (pyNext (.ref it)) (fun r s1 => ∃ u, r = some u ∧
      wpAny (model P w) X.A (letOwnedTupleGo tg (.ref it) u) (fun _ s2 => ∃ x H', Inv X pins σ H' s2 ∧ RelV x u ∧ J.yld i H x H' ∧ tn (i + 1) s2.heap ∧ ∀ b ∈ fp, H' b = none) E s1) E s
  done : ∀ (X : Cx), X.prog = P → X.w = w → X.K = K → X.calm = true → ∀ (i : Nat) (pins : List (Addr × Obj)) (s : Shared) (σ : St) (H : Hp) (E : Value → Shared → Prop), Inv X pins σ H s → (∀ b ∈ fp, FpOk X pins H b) → tn i s.heap → J.stop i H →
    wpAny (model P w) X.A (pyNext (.ref it)) (fun r s1 => r = none ∧ Inv X pins σ H s1) E s
  self : ∀ (A : Around) (i : Nat) (s : Shared) (Q : Value → Shared → Prop) (E : Value → Shared → Prop), tn i s.heap → Q (.ref it) s → wpAny (model P w) A (pyIter (.ref it)) Q E s
abbrev TI := St → Hp → (It → Hp → Prop) → Prop
/-- an iterator has come -/
def PIE (X : Cx) (pins : List (Addr × Obj)) (σ : St) (tg : Expr) (R : It → Hp → Prop) (itv : Value) (s2 : Shared) : Prop :=
  ∃ (it : Addr) (fp : List Addr) (tn : Nat → Heap → Prop) (J : It) (H' : Hp), itv = .ref it ∧ Inv X pins σ H' s2 ∧ Turn X.prog X.w X.K tg J fp it tn ∧ tn 0 s2.heap ∧ (∀ b ∈ fp, FpOk X pins H' b) ∧ R J H'
def PI (X : Cx) (tg iter : Expr) (wi : TI) : Prop :=
  ∀ (pins : List (Addr × Obj)) (s : Shared) (σ : St) (H : Hp) (R : It → Hp → Prop), Inv X pins σ H s → wi σ H R →
    wpAny (model X.prog X.w) X.A (eval iter X.env) (fun v s1 => wpAny (model X.prog X.w) X.A (pyIter v) (PIE X pins σ tg R) X.xe s1) X.xe s

/-- the step ahead of the store is nothing for an iterator that keeps no tuple -/
theorem go_of {M : Model} {A : Around} {E : Value → Shared → Prop} {s : Shared} {tg : Expr} {it : Addr} {u : Value} {o : Obj} {n : String} {vs : Array Value} {Q : Unit → Shared → Prop} (ho : s.heap.get? it = some o) (hc : o.cls = .type n) (hd : o.data = .fields vs)
    (hn : ["enumerate", "zip", "dict_itemiterator", "dict_reverseitemiterator", "odict_iterator", "itertools.zip_longest", "itertools.pairwise"].contains n = false) (hQ : Q () s) : wpAny M A (letOwnedTupleGo tg (.ref it) u) Q E s := by
  unfold letOwnedTupleGo
  cases tg <;> first
    | exact wpAny_pure hQ
    | (cases u <;> first
        | exact wpAny_pure hQ
        | (refine wpAny_bind (wpAny_load ho ?_)
           rw [hc, hd]
           show wpAny M A (if (["enumerate", "zip", "dict_itemiterator", "dict_reverseitemiterator", "odict_iterator", "itertools.zip_longest", "itertools.pairwise"].contains n && vs[0]? == some (rawInt _)) = true then _ else _) Q E s
           rw [if_neg (by intro h; rw [hn, Bool.false_and] at h; cases h)]
           exact wpAny_pure hQ))

/-- the list at a, as it stands at each turn (a loop may append to it) -/
def Itl (K : PySem.W.Frag) (a : Addr) : It :=
  ⟨fun i H => ∃ xs x, SqL K H a xs ∧ xs[i]? = some x, fun i H x H' => H' = H ∧ ∀ xs, SqL K H a xs → xs[i]? = some x, fun i H => ∃ xs, SqL K H a xs ∧ xs.length ≤ i⟩
def Itt (K : PySem.W.Frag) (a : Addr) : It :=
  ⟨fun i H => ∃ xs x, SqT K H a xs ∧ xs[i]? = some x, fun i H x H' => H' = H ∧ ∀ xs, SqT K H a xs → xs[i]? = some x, fun i H => ∃ xs, SqT K H a xs ∧ xs.length ≤ i⟩
/-- lo, lo + 1, .. (n of them) -/
def Itr (lo : Int) (n : Nat) : It := ⟨fun i _ => i < n, fun i H x H' => H' = H ∧ x = .int (lo + i), fun i _ => n ≤ i⟩
theorem turn_list {P : Program} {w : World} {K : PySem.W.Frag} {tg : Expr} (a it : Addr) : Turn P w K tg (Itl K a) [it] it (fun i h => h.IsListIter it a i) where
  mem := by simp
  obj := fun i h st b hb => by
    have e : b = it := by simpa using hb
    subst e
    obtain ⟨o, e, c, d⟩ := st
    exact ⟨o, e, fun v z => by rw [d] at z; cases z⟩
  keep := fun i h h' st k => st.at fun o e => k it (by simp) o e
  item := by
    intro X hP hw hK hc i pins s σ H E I hf st hg
    subst hP hw hK
    obtain ⟨xs, x, hq, hx⟩ := hg
    obtain ⟨its, rv, p, hz⟩ := I.list hq
    obtain ⟨u, hu, ru⟩ := rv.get hx
    obtain ⟨f0, f1, f2, f3, f4, f5⟩ := hf it (by simp)
    refine wpAny_pyNext_list_item st p.isList (x := u) (by simpa using hu) fun h' st' sb => ?_
    have I1 : Inv X pins σ H { s with heap := h' } := I.turned (t' := s.toks) (fun b o hb e => (sb.2 b hb).trans e) f0 f1 f3 f4 f5
    obtain ⟨o, e, c, d⟩ := id st'
    exact ⟨u, rfl, go_of (s := { s with heap := h' }) e c d (by decide) ⟨x, H, I1, ru, ⟨rfl, fun ys hy => by rw [I.list_inj hy hq]; exact hx⟩, st', fun b hb => (hf b hb).1⟩⟩
  done := by
    intro X hP hw hK hc i pins s σ H E I hf st hg
    subst hP hw hK
    obtain ⟨xs, hq, hx⟩ := hg
    obtain ⟨its, rv, p, hz⟩ := I.list hq
    obtain ⟨f0, f1, f2, f3, f4, f5⟩ := hf it (by simp)
    have hl := rv.length
    exact wpAny_pyNext_list_end (I.ok.hd hc) st p.isList (by simp; omega) fun h' eb => ⟨rfl, I.turned (t' := s.toks) (fun b o hb e => eb b o hb e) f0 f1 f3 f4 f5⟩
  self := fun _ _ _ _ _ st h => wpAny_pyIter_listiter st h
theorem turn_range {P : Program} {w : World} {K : PySem.W.Frag} {tg : Expr} (it : Addr) (lo : Int) (n : Nat) : Turn P w K tg (Itr lo n) [it] it (fun i h => IsRangeIter h it (lo + (i : Nat) * 1) ((n : Int) - (i : Nat)) 1) where
  mem := by simp
  obj := fun i h st b hb => by
    have e : b = it := by simpa using hb
    subst e
    exact ⟨_, st, fun v z => by
      have z' : Data.fields _ = Data.cell v := z
      cases z'⟩
  keep := fun i h h' st k => k it (by simp) _ st
  item := by
    intro X hP hw hK hc i pins s σ H E I hf st hg
    subst hP hw hK
    obtain ⟨f0, f1, f2, f3, f4, f5⟩ := hf it (by simp)
    have W := Walks.range (prog := X.prog) (w := X.w) (I.ok.hd hc) it lo 1 n
    refine W.item i s _ _ hg st fun v h' tk hv st' kk => ?_
    obtain ⟨t, rfl⟩ := hv
    have I1 : Inv X pins σ H { s with heap := h', toks := tk } := I.turned (fun b o hb e => kk b o (by simpa using hb) e) f0 f1 f3 f4 f5
    refine ⟨_, rfl, go_of (s := { s with heap := h', toks := tk }) (n := "range_iterator") st' rfl rfl (by decide) ⟨.int (lo + i), H, I1, ⟨t, ?_⟩, ⟨rfl, rfl⟩, st', fun b hb => (hf b hb).1⟩⟩
    rw [Int.mul_one]
  done := by
    intro X hP hw hK hc i pins s σ H E I hf st hg
    subst hP hw hK
    obtain ⟨f0, f1, f2, f3, f4, f5⟩ := hf it (by simp)
    exact wpAny_pyNext_range_end (I.ok.hd hc) st (by have : n ≤ i := hg; omega) fun h' eb => ⟨rfl, I.turned (t' := s.toks) (fun b o hb e => eb b o hb e) f0 f1 f3 f4 f5⟩
  self := fun _ _ _ _ _ st h => wpAny_pyIter_rangeiter st h
end L2

namespace L2
open PySem PySem.Spec PyProof.Rows
section
variable {X : Cx} {tg : Expr}
def iList (K : PySem.W.Frag) (tl : TE) : TI := fun σ H R => tl σ H fun x H1 => ∃ a, x = .ref a ∧ (∃ xs, SqL K H1 a xs) ∧ R (Itl K a) H1
def iTup (K : PySem.W.Frag) (tl : TE) : TI := fun σ H R => tl σ H fun x H1 => ∃ a, x = .ref a ∧ (∃ xs, SqT K H1 a xs) ∧ R (Itt K a) H1
theorem pi_list {l : Expr} {tl : TE} (hl : PE X l tl) : PI X tg l (iList X.K tl) := by
  intro pins s σ H R I h
  refine thn (hl pins s σ H _ I h) fun v s1 ⟨x, H1, I1, r1, q1⟩ => ?_
  obtain ⟨a, e, ⟨xs, hq⟩, q⟩ := q1
  subst e
  cases r1
  obtain ⟨its, rv, p, hz⟩ := I1.list hq
  refine wpAny_pyIter_list p.isList ?_
  refine ⟨s1.heap.objs.size, [s1.heap.objs.size], _, _, H1, rfl, I1.kept (t' := s1.toks) fun b o e => Heap.get?_push_of_some _ e, turn_list a _, ⟨_, Heap.get?_push_size _ rfl, rfl, rfl⟩, fun b hb => ?_, q⟩
  have e : b = s1.heap.objs.size := by simpa using hb
  subst e
  exact I1.fpOk (Nat.le_refl _) (I1.hok.fresh (Nat.le_refl _))
/-- a range object just made, walked -/
theorem range_it {pins : List (Addr × Obj)} {σ : St} {H : Hp} {s : Shared} {R : It → Hp → Prop} {E : Value → Shared → Prop} {lo hi : Int} {t u v : Tok} {tk : Nat} (I : Inv X pins σ H s) (h1 : -(2 ^ 62) ≤ lo) (h2 : lo < 2 ^ 62) (h3 : -(2 ^ 62) ≤ hi) (h4 : hi < 2 ^ 62)
    (q : R (Itr lo (hi - lo).toNat) H) : wpAny (model X.prog X.w) X.A (pyIter (.ref s.heap.objs.size)) (PIE X pins σ tg R) E { s with heap := s.heap.push { cls := .type "range", data := .fields #[.int lo t, .int hi u, .int 1 v] }, toks := tk } := by
  refine wpAny_pyIter_range (IsRange.new ..) (small_one h1 h2 h3 h4) ?_
  have I1 : Inv X pins σ H { s with heap := s.heap.push { cls := .type "range", data := .fields #[.int lo t, .int hi u, .int 1 v] }, toks := tk } := I.kept fun b o e => Heap.get?_push_of_some _ e
  refine ⟨(s.heap.push { cls := .type "range", data := .fields #[.int lo t, .int hi u, .int 1 v] }).objs.size, [(s.heap.push { cls := .type "range", data := .fields #[.int lo t, .int hi u, .int 1 v] }).objs.size], _, _, H, rfl,
    I1.kept (t' := tk) fun b o e => Heap.get?_push_of_some _ e, turn_range _ lo (hi - lo).toNat, ?_, fun b hb => ?_, q⟩
  · have e1 : lo + ((0 : Nat) : Int) * 1 = lo := by simp
    have e2 : (((hi - lo).toNat : Nat) : Int) - ((0 : Nat) : Int) = Builtin.Range.rangeSize lo hi 1 := by rw [rangeSize_one]; split <;> omega
    show IsRangeIter _ _ (lo + ((0 : Nat) : Int) * 1) ((((hi - lo).toNat : Nat) : Int) - ((0 : Nat) : Int)) 1
    rw [e1, e2]
    exact Heap.get?_push_size _ rfl
  · have e : b = (s.heap.push { cls := .type "range", data := .fields #[.int lo t, .int hi u, .int 1 v] }).objs.size := by simpa using hb
    subst e
    exact I1.fpOk (Nat.le_refl _) (I1.hok.fresh (Nat.le_refl _))
def iRng1 (ta : TA) : TI := fun σ H R => ta σ H fun vs H1 => ∃ j : Int, vs = [.int j] ∧ -(2 ^ 62) ≤ j ∧ j < 2 ^ 62 ∧ R (Itr 0 j.toNat) H1
def iRng2 (ta : TA) : TI := fun σ H R => ta σ H fun vs H1 => ∃ i j : Int, vs = [.int i, .int j] ∧ (-(2 ^ 62) ≤ i ∧ i < 2 ^ 62 ∧ -(2 ^ 62) ≤ j ∧ j < 2 ^ 62) ∧ R (Itr i (j - i).toNat) H1
theorem pi_range1 {a : Expr} {ta : TA} {p pos : Pos} (hg : Gl X "range") (hm : X.mg "range" = none) (ha : PA X [a] ta) (hs : starEach [a] X.env = [(false, eval a X.env)] := by rfl) : PI X tg (.Call (.Name "range" p) [a] [] pos) (iRng1 ta) := by
  intro pins s σ H R I h
  refine Call_ (ld_blt I hg hm boot_range (PyProof.Rows.callWith_type1 (thn (ha pos pins s σ H _ I h) fun us s1 ⟨vs, H1, I1, r1, q1⟩ => ?_) hs rfl))
  obtain ⟨j, e, q1, q2, q⟩ := q1
  subst e
  cases r1 with
  | cons r rr =>
    cases rr
    obtain ⟨t, rfl⟩ := r
    exact call_range_1 (range_it I1 (by omega) (by omega) q1 q2 (by simpa using q))

/-! ### for -/
/-- W: the invariant by the turn and a measure; N: what the body is to reach -/
def tFor (wi : TI) (g : TG) (tb : TS) : TS := fun D σ H => wi σ H fun J H1 => ∃ W : Nat → Nat → St → Hp → Prop, (∃ m, W 0 m σ H1) ∧ ∀ i m σ H, W i m σ H →
  (J.stop i H ∧ D.nx σ H) ∨ (J.go i H ∧ ∃ N : St → Hp → Prop, (∀ σ' H', N σ' H' → ∃ m', m' < m ∧ W (i + 1) m' σ' H') ∧ ∀ x H', J.yld i H x H' → g x σ H' fun σ2 H2 => tb { D with nx := N, ct := N, bk := D.nx } σ2 H2)
/-- the records at fp as they stand -/
def pinsAt (fp : List Addr) (h : Heap) : List (Addr × Obj) := fp.filterMap fun b => (h.get? b).map fun o => (b, o)
theorem mem_pinsAt {fp : List Addr} {h : Heap} {b : Addr} {o : Obj} (hb : b ∈ fp) (e : h.get? b = some o) : (b, o) ∈ pinsAt fp h := List.mem_filterMap.mpr ⟨b, hb, by rw [e]; rfl⟩
theorem of_pinsAt {fp : List Addr} {h : Heap} {p : Addr × Obj} (hp : p ∈ pinsAt fp h) : p.1 ∈ fp ∧ h.get? p.1 = some p.2 := by
  obtain ⟨b, hb, e⟩ := List.mem_filterMap.mp hp
  cases q : h.get? b with
  | none => rw [q] at e; cases e
  | some o =>
    rw [q] at e
    have e' : (b, o) = p := Option.some.inj e
    subst e'
    exact ⟨hb, q⟩
theorem Inv.pinned {pins : List (Addr × Obj)} {σ : St} {H : Hp} {s : Shared} {fp : List Addr} (I : Inv X pins σ H s) (hf : ∀ b ∈ fp, FpOk X pins H b) (ho : ∀ b ∈ fp, ∃ o, s.heap.get? b = some o ∧ ∀ v, o.data ≠ .cell v) : Inv X (pins ++ pinsAt fp s.heap) σ H s :=
  I.pins_of fun p hp => (List.mem_append.mp hp).elim (fun z => I.pin p (List.mem_append_right _ z)) fun z => by
    obtain ⟨hb, e⟩ := of_pinsAt z
    obtain ⟨f0, f1, f2, _⟩ := hf p.1 hb
    obtain ⟨o, e', d⟩ := ho p.1 hb
    rw [e] at e'; cases e'
    exact ⟨e, f0, f1, f2, d⟩
theorem Inv.unpinned {pins pl : List (Addr × Obj)} {σ : St} {H : Hp} {s : Shared} (I : Inv X (pins ++ pl) σ H s) : Inv X pins σ H s := I.pins_of fun p hp => I.pin p (List.mem_append_right _ (List.mem_append_left _ hp))
theorem ps_for {iter : Expr} {body : List Stmt} {wi : TI} {g : TG} {tb : TS} {pos : Pos} (hp : PassesOwn (model X.prog X.w) X.A X.env X.xe) (hc : X.calm = true) (hi : PI X tg iter wi) (hg : PG X tg g) (hb : PSs X body tb)
    (hs : ∀ x, foldedSetIterable iter X.env x = pure x := by intro _; rfl) : PS X (.For tg iter body [] pos) (tFor wi g tb) := by
  intro pins s σ H D I h
  refine wpAny_For (thn (hi pins s σ H _ I h) fun v s1 h1 => thn h1 fun itv s2 h2 => ?_) hs
  obtain ⟨it, fp, tn, J, H2, e, I2, T, st2, f2, W, ⟨m0, w0⟩, turn⟩ := h2
  subst e
  -- what stays true of the iterator's objects through the loop
  have stat : ∀ {H' : Hp}, (∀ b ∈ fp, H' b = none) → ∀ b ∈ fp, FpOk X pins H' b := fun hn b hb => ⟨hn b hb, (f2 b hb).2⟩
  refine codeAny_forLoop_any (fun n s' => ∃ i σ' H', Inv X pins σ' H' s' ∧ tn i s'.heap ∧ (∀ b ∈ fp, H' b = none) ∧ W i n σ' H') ?_ m0 ⟨0, σ, H2, I2, st2, fun b hb => (f2 b hb).1, w0⟩
  rintro n s3 ⟨i, σ3, H3, I3, st3, fr3, w3⟩
  rcases turn i n σ3 H3 w3 with ⟨stop, qn⟩ | ⟨go, N, hN, step⟩
  · refine wpAny_passesOwn hp (thn (T.done X rfl rfl rfl hc i pins s3 σ3 H3 X.xe I3 (stat fr3) st3 stop) fun r s4 ⟨hr, I4⟩ => ?_)
    subst hr
    exact wpAny_execs_nil ⟨σ3, H3, I4, qn⟩
  · refine wpAny_passesOwn hp (thn (T.item X rfl rfl rfl hc i pins s3 σ3 H3 X.xe I3 (stat fr3) st3 go) fun r s4 ⟨u, hr, h4⟩ => ?_)
    subst hr
    refine wpAny_passesOwn hp (thn h4 fun _ s5 ⟨x, H5, I5, r5, y5, st5, fr5⟩ => ?_)
    have I5' := I5.pinned (stat fr5) (T.obj _ _ st5)
    refine wpAny_passesOwn hp (thn (hg _ s5 σ3 H5 x u _ I5' r5 (step x H5 y5)) fun _ s6 ⟨σ6, H6, I6, q6⟩ => ?_)
    refine wpAny_passesOwn hp (thn (hb _ s6 σ6 H6 _ I6 q6) fun f s7 q7 => ?_)
    have again : ∀ {σ7 : St} {H7 : Hp}, Inv X (pins ++ pinsAt fp s5.heap) σ7 H7 s7 → N σ7 H7 → ∃ m, m < n ∧ ∃ i σ' H', Inv X pins σ' H' s7 ∧ tn i s7.heap ∧ (∀ b ∈ fp, H' b = none) ∧ W i m σ' H' := fun {σ7 H7} I7 n7 => by
      obtain ⟨m', hm, w7⟩ := hN σ7 H7 n7
      refine ⟨m', hm, i + 1, σ7, H7, I7.unpinned, T.keep _ _ _ st5 fun b hb o e => (I7.pin (b, o) (List.mem_append_right _ (List.mem_append_right _ (mem_pinsAt hb e)))).1, fun b hb => ?_, w7⟩
      obtain ⟨o, e, d⟩ := T.obj _ _ st5 b hb
      exact (I7.pin (b, o) (List.mem_append_right _ (List.mem_append_right _ (mem_pinsAt hb e)))).2.1
    cases f with
    | next => obtain ⟨σ7, H7, I7, n7⟩ := q7; exact again I7 n7
    | cont => obtain ⟨σ7, H7, I7, n7⟩ := q7; exact again I7 n7
    | brk => obtain ⟨σ7, H7, I7, q7⟩ := q7; exact ⟨σ7, H7, I7.unpinned, q7⟩
    | ret v => obtain ⟨x7, σ7, H7, I7, r7, q7⟩ := q7; exact ⟨x7, σ7, H7, I7.unpinned, r7, q7⟩
end

/-! ### the forms one uses -/
/-- over a list that the body leaves as it is -/
theorem for_list {K : PySem.W.Frag} {a : Addr} {xs : List V} {g : TG} {tb : TS} {D : Ends} {σ : St} {H : Hp} (Pv : Nat → St → Hp → Prop) (h0 : Pv 0 σ H) (hl : ∀ i σ H, i ≤ xs.length → Pv i σ H → SqL K H a xs)
    (hs : ∀ i x σ H, xs[i]? = some x → Pv i σ H → g x σ H fun σ2 H2 => tb { D with nx := Pv (i + 1), ct := Pv (i + 1), bk := D.nx } σ2 H2) (hd : ∀ σ H, Pv xs.length σ H → D.nx σ H) :
    ∃ W : Nat → Nat → St → Hp → Prop, (∃ m, W 0 m σ H) ∧ ∀ i m σ H, W i m σ H →
      ((Itl K a).stop i H ∧ D.nx σ H) ∨ ((Itl K a).go i H ∧ ∃ N : St → Hp → Prop, (∀ σ' H', N σ' H' → ∃ m', m' < m ∧ W (i + 1) m' σ' H') ∧ ∀ x H', (Itl K a).yld i H x H' → g x σ H' fun σ2 H2 => tb { D with nx := N, ct := N, bk := D.nx } σ2 H2) := by
  refine ⟨fun i m σ H => m = xs.length - i ∧ i ≤ xs.length ∧ Pv i σ H, ⟨xs.length, by simp, Nat.zero_le _, h0⟩, ?_⟩
  rintro i m σ H ⟨rfl, hi, p⟩
  have q := hl i σ H hi p
  by_cases hlt : i < xs.length
  · refine .inr ⟨⟨xs, xs[i], q, by simp [hlt]⟩, Pv (i + 1), fun σ' H' p' => ⟨xs.length - (i + 1), by omega, rfl, hlt, p'⟩, fun x H' y => ?_⟩
    obtain ⟨e, y⟩ := y
    subst e
    exact hs i x σ _ (y xs q) p
  · have e : i = xs.length := by omega
    subst e
    exact .inl ⟨⟨xs, q, Nat.le_refl _⟩, hd σ H p⟩
theorem for_range {lo : Int} {n : Nat} {g : TG} {tb : TS} {D : Ends} {σ : St} {H : Hp} (Pv : Nat → St → Hp → Prop) (h0 : Pv 0 σ H)
    (hs : ∀ i σ H, i < n → Pv i σ H → g (.int (lo + i)) σ H fun σ2 H2 => tb { D with nx := Pv (i + 1), ct := Pv (i + 1), bk := D.nx } σ2 H2) (hd : ∀ σ H, Pv n σ H → D.nx σ H) :
    ∃ W : Nat → Nat → St → Hp → Prop, (∃ m, W 0 m σ H) ∧ ∀ i m σ H, W i m σ H →
      ((Itr lo n).stop i H ∧ D.nx σ H) ∨ ((Itr lo n).go i H ∧ ∃ N : St → Hp → Prop, (∀ σ' H', N σ' H' → ∃ m', m' < m ∧ W (i + 1) m' σ' H') ∧ ∀ x H', (Itr lo n).yld i H x H' → g x σ H' fun σ2 H2 => tb { D with nx := N, ct := N, bk := D.nx } σ2 H2) := by
  refine ⟨fun i m σ H => m = n - i ∧ i ≤ n ∧ Pv i σ H, ⟨n, by simp, Nat.zero_le _, h0⟩, ?_⟩
  rintro i m σ H ⟨rfl, hi, p⟩
  by_cases hlt : i < n
  · refine .inr ⟨hlt, Pv (i + 1), fun σ' H' p' => ⟨n - (i + 1), by omega, rfl, hlt, p'⟩, fun x H' y => ?_⟩
    obtain ⟨e, y⟩ := y
    subst e y
    exact hs i σ _ hlt p
  · have e : i = n := by omega
    subst e
    exact .inl ⟨Nat.le_refl _, hd σ H p⟩
end L2

namespace L2
open PySem PySem.Spec PyProof.Rows

abbrev R2 := V → V → Hp → VK → Prop
/-- a two-place operation on values: f is binaryOp op, inplaceOp op or compareOp op -/
def OpR (X : Cx) (f : Value → Value → Sem Value) (r : R2) : Prop :=
  ∀ (pins : List (Addr × Obj)) (s : Shared) (σ : St) (H : Hp) (x y : V) (v u : Value) (Q : VK), Inv X pins σ H s → RelV x v → RelV y u → r x y H Q →
    wpAny (model X.prog X.w) X.A (f v u) (EP X pins σ Q) X.xe s
/-- a one-place operation -/
def UnR (X : Cx) (f : Value → Sem Value) (r : V → Hp → VK → Prop) : Prop :=
  ∀ (pins : List (Addr × Obj)) (s : Shared) (σ : St) (H : Hp) (x : V) (v : Value) (Q : VK), Inv X pins σ H s → RelV x v → r x H Q →
    wpAny (model X.prog X.w) X.A (f v) (EP X pins σ Q) X.xe s
/-- a call of a value that is known (a builtin, a type) with values -/
def CallR (X : Cx) (f : Value) (r : List V → Hp → VK → Prop) : Prop :=
  ∀ (pins : List (Addr × Obj)) (s : Shared) (σ : St) (H : Hp) (xs : List V) (us : List Value) (Q : VK), Inv X pins σ H s → Vals xs us → r xs H Q →
    wpAny (model X.prog X.w) X.A (call f us) (EP X pins σ Q) X.xe s
/-- a value's truth -/
def TruR (X : Cx) (r : V → Hp → (Bool → Hp → Prop) → Prop) : Prop :=
  ∀ (pins : List (Addr × Obj)) (s : Shared) (σ : St) (H : Hp) (x : V) (v : Value) (Q : Bool → Hp → Prop), Inv X pins σ H s → RelV x v → r x H Q →
    wpAny (model X.prog X.w) X.A (truthy v) (TP X pins σ Q) X.xe s

def tOp (r : R2) (ta tb : TE) : TE := fun σ H Q => ta σ H fun x H1 => tb σ H1 fun y H2 => r x y H2 Q
def tUn (r : V → Hp → VK → Prop) (ta : TE) : TE := fun σ H Q => ta σ H fun x H1 => r x H1 Q
/-- ints in, under C, and a value out -/
def rI (C : Int → Int → Prop) (g : Int → Int → V) : R2 := fun x y H Q => ∃ i j, x = .int i ∧ y = .int j ∧ C i j ∧ Q (g i j) H
def rI0 (g : Int → Int → V) : R2 := fun x y H Q => ∃ i j, x = .int i ∧ y = .int j ∧ Q (g i j) H
def rU (g : Int → V) : V → Hp → VK → Prop := fun x H Q => ∃ i, x = .int i ∧ Q (g i) H

section
variable {X : Cx} {a b c : Expr} {ta tb tc : TE} {pos : Pos}

theorem binT (ha : PE X a ta) (hb : PE X b tb) {pins : List (Addr × Obj)} {s : Shared} {σ : St} {H : Hp} {R : V → V → Hp → Prop} (I : Inv X pins σ H s)
    (h : ta σ H fun x H1 => tb σ H1 fun y H2 => R x y H2) {Q : Value → Shared → Prop} {f : Value → Value → Sem Value}
    (hf : ∀ v u s2 x y H2, Inv X pins σ H2 s2 → RelV x v → RelV y u → R x y H2 → wpAny (model X.prog X.w) X.A (f v u) Q X.xe s2) :
    wpAny (model X.prog X.w) X.A (eval a X.env) (fun v s₁ => wpAny (model X.prog X.w) X.A (eval b X.env) (fun u s₂ => wpAny (model X.prog X.w) X.A (f v u) Q X.xe s₂) X.xe s₁) X.xe s := by
  refine thn (ha pins s σ H _ I h) fun v s1 ⟨x, H1, I1, r1, q1⟩ => ?_
  refine thn (hb pins s1 σ H1 _ I1 q1) fun u s2 ⟨y, H2, I2, r2, q2⟩ => ?_
  exact hf v u s2 x y H2 I2 r1 r2 q2

theorem pe_op {op : Operator} {r : R2} (ho : OpR X (binaryOp op) r) (ha : PE X a ta) (hb : PE X b tb) : PE X (.BinOp a op b pos) (tOp r ta tb) := by
  intro pins s σ H Q I h
  exact wpAny_BinOp (binT ha hb I h fun v u s2 x y H2 I2 rx ry q => ho pins s2 σ H2 x y v u Q I2 rx ry q)
theorem pe_un {op : UnaryOp} {r : V → Hp → VK → Prop} (ho : UnR X (unaryOp op) r) (ha : PE X a ta) : PE X (.UnaryOp op a pos) (tUn r ta) := by
  intro pins s σ H Q I h
  exact UnaryOp_ (thn (ha pins s σ H _ I h) fun v s1 ⟨x, H1, I1, r1, q1⟩ => ho pins s1 σ H1 x v Q I1 r1 q1)

/-! ### ints -/
theorem opI {f : Value → Value → Sem Value} {C : Int → Int → Prop} {g : Int → Int → Int}
    (rule : ∀ (i j : Int) (t u : Tok) (s : Shared) (Q : Value → Shared → Prop) (E : Value → Shared → Prop), C i j → Q (.int (g i j) s.toks) { s with toks := s.toks + 1 } → wpAny (model X.prog X.w) X.A (f (.int i t) (.int j u)) Q E s) :
    OpR X f (rI C fun i j => .int (g i j)) := by
  intro pins s σ H x y v u Q I rx ry h
  obtain ⟨i, j, rfl, rfl, hc, q⟩ := h
  obtain ⟨t, rfl⟩ := rx
  obtain ⟨t', rfl⟩ := ry
  exact rule i j t t' s _ _ hc ⟨.int (g i j), H, I.tok _, ⟨_, rfl⟩, q⟩
theorem opI0 {f : Value → Value → Sem Value} {g : Int → Int → Int}
    (rule : ∀ (i j : Int) (t u : Tok) (s : Shared) (Q : Value → Shared → Prop) (E : Value → Shared → Prop), Q (.int (g i j) s.toks) { s with toks := s.toks + 1 } → wpAny (model X.prog X.w) X.A (f (.int i t) (.int j u)) Q E s) :
    OpR X f (rI0 fun i j => .int (g i j)) := by
  intro pins s σ H x y v u Q I rx ry h
  obtain ⟨i, j, rfl, rfl, q⟩ := h
  obtain ⟨t, rfl⟩ := rx
  obtain ⟨t', rfl⟩ := ry
  exact rule i j t t' s _ _ ⟨.int (g i j), H, I.tok _, ⟨_, rfl⟩, q⟩
theorem opB0 {f : Value → Value → Sem Value} {g : Int → Int → Bool}
    (rule : ∀ (i j : Int) (t u : Tok) (s : Shared) (Q : Value → Shared → Prop) (E : Value → Shared → Prop), Q (.bool (g i j)) s → wpAny (model X.prog X.w) X.A (f (.int i t) (.int j u)) Q E s) :
    OpR X f (rI0 fun i j => .bl (g i j)) := by
  intro pins s σ H x y v u Q I rx ry h
  obtain ⟨i, j, rfl, rfl, q⟩ := h
  obtain ⟨t, rfl⟩ := rx
  obtain ⟨t', rfl⟩ := ry
  exact rule i j t t' s _ _ ⟨.bl (g i j), H, I, rfl, q⟩

def CDiv (i j : Int) : Prop := 0 < j ∧ j < 1073741824
def CDivN (i j : Int) : Prop := j ≠ 0 ∧ j.natAbs < 1073741824
def CPow (i j : Int) : Prop := 0 ≤ j ∧ j ≤ 1000000 ∧ i.natAbs < 2 ^ 64
def CMul (i j : Int) : Prop := (-(2 ^ 64) < i ∧ i < 2 ^ 64) ∨ (-(2 ^ 64) < j ∧ j < 2 ^ 64)
theorem CMul.ok {i j : Int} (h : CMul i j) : IntMulOk i j := by
  rcases h with ⟨h1, h2⟩ | ⟨h1, h2⟩
  · exact .of_left (intBits_le_64 h1 h2)
  · exact .of_right (intBits_le_64 h1 h2)
theorem two_pow_nn (k : Nat) : (0 : Int) ≤ 2 ^ k := by
  rw [two_pow_cast]
  exact Int.natCast_nonneg _

theorem op_add : OpR X (binaryOp .Add) (rI0 fun i j => .int (i + j)) := opI0 fun _ _ _ _ _ _ _ q => add_int q
theorem op_sub : OpR X (binaryOp .Sub) (rI0 fun i j => .int (i - j)) := opI0 fun _ _ _ _ _ _ _ q => sub_int q
theorem op_mul : OpR X (binaryOp .Mult) (rI CMul fun i j => .int (i * j)) := opI fun _ _ _ _ _ _ _ hc q => mul_int q hc.ok
/-- // by a positive divisor -/
theorem op_fdiv : OpR X (binaryOp .FloorDiv) (rI CDiv fun i j => .int (i / j)) := opI fun i j _ _ _ _ _ hc q => by
  have h1 : (0 : Int) < j := hc.1
  have h2 : j < 1073741824 := hc.2
  exact floordiv_int (by omega) (by rw [Int.fdiv_eq_ediv_of_nonneg i (by omega)]; exact q) (.inl (PyProof.noPylong_small (by omega)))
/-- % by a positive divisor of any size -/
theorem op_mod : OpR X (binaryOp .Mod) (rI (fun _ j => 0 < j) fun i j => .int (i % j)) := opI fun i j _ _ _ _ _ hc q => by
  have h1 : (0 : Int) < j := hc
  exact mod_int' (by omega) (by rw [Int.fmod_eq_emod_of_nonneg i (by omega)]; exact q)
theorem op_pow : OpR X (binaryOp .Pow) (rI CPow fun i j => .int (i ^ j.toNat)) := opI fun _ _ _ _ _ _ _ hc q => pow_int_small hc.1 hc.2.1 hc.2.2 q
theorem op_shr : OpR X (binaryOp .RShift) (rI (fun _ j => 0 ≤ j) fun i j => .int (i / 2 ^ j.toNat)) := opI fun i j _ _ _ _ _ hc q =>
  rshift_int hc (by rw [Int.fdiv_eq_ediv_of_nonneg i (two_pow_nn _)]; exact q)
theorem op_and : OpR X (binaryOp .BitAnd) (rI0 fun i j => .int (Builtin.bitAnd i j)) := opI0 fun _ _ _ _ _ _ _ q => and_int q


theorem unI {f : Value → Sem Value} {g : Int → Int}
    (rule : ∀ (i : Int) (t : Tok) (s : Shared) (Q : Value → Shared → Prop) (E : Value → Shared → Prop), Q (.int (g i) s.toks) { s with toks := s.toks + 1 } → wpAny (model X.prog X.w) X.A (f (.int i t)) Q E s) :
    UnR X f (rU fun i => .int (g i)) := by
  intro pins s σ H x v Q I rx h
  obtain ⟨i, rfl, q⟩ := h
  obtain ⟨t, rfl⟩ := rx
  exact rule i t s _ _ ⟨.int (g i), H, I.tok _, ⟨_, rfl⟩, q⟩
theorem un_neg : UnR X (unaryOp .USub) (rU fun i => .int (-i)) := unI fun _ _ _ _ _ q => neg_int q

/-! ### bools among ints: n += (a < b) -/
end

/-! ### comparisons -/
/-- the scalars that == tells apart as data does -/
def scal : V → V → Bool
  | .non, .non => true | .non, .int _ => true | .int _, .non => true | .non, .bl _ => true | .bl _, .non => true | .non, .str _ => true | .str _, .non => true
  | .int _, .int _ => true | .bl _, .bl _ => true | .str _, .str _ => true | .byt _, .byt _ => true
  | .int _, .str _ => true | .str _, .int _ => true | .bl _, .str _ => true | .str _, .bl _ => true
  | _, _ => false
def rEq : R2 := fun x y H Q => scal x y = true ∧ Q (.bl (decide (x = y))) H
def rNe : R2 := fun x y H Q => scal x y = true ∧ Q (.bl (!decide (x = y))) H

theorem dec_int {i j : Int} : decide (V.int i = V.int j) = (i == j) := by
  rw [Bool.eq_iff_iff]
  simp
theorem dec_bl {i j : Bool} : decide (V.bl i = V.bl j) = (i == j) := by
  rw [Bool.eq_iff_iff]
  simp
theorem dec_str {i j : Str} : decide (V.str i = V.str j) = (i == j) := by
  rw [Bool.eq_iff_iff]
  simp
theorem dec_byt {i j : Array UInt8} : decide (V.byt i = V.byt j) = (i.toList == j.toList) := by
  rw [Bool.eq_iff_iff]
  cases i
  cases j
  simp

section
variable {X : Cx} {a b c : Expr} {ta tb tc : TE} {pos : Pos}
theorem fin_bl {pins : List (Addr × Obj)} {σ : St} {H : Hp} {s : Shared} {Q : VK} {k k' : Bool} (I : Inv X pins σ H s) (q : Q (.bl k) H) (e : k = k') : EP X pins σ Q (.bool k') s := by
  subst e
  exact ⟨.bl k, H, I, rfl, q⟩
theorem op_eq : OpR X (compareOp .Eq) rEq := by
  intro pins s σ H x y v u Q I rx ry h
  obtain ⟨hs, q⟩ := h
  cases x with
  | non =>
    cases rx
    cases y with
    | non => cases ry; exact PySem.EqNone.eq_none_none (fin_bl I q (by simp))
    | bl j => cases ry; exact PySem.EqNone.eq_none_bool (fin_bl I q (by simp))
    | int j => obtain ⟨t', rfl⟩ := ry; exact PySem.EqNone.eq_none_int (fin_bl I q (by simp))
    | str j => obtain ⟨t', rfl⟩ := ry; exact PySem.EqNone.eq_none_str (fin_bl I q (by simp))
    | _ => exact absurd (show false = true from hs) Bool.false_ne_true
  | bl i =>
    cases rx
    cases y with
    | non => cases ry; exact PySem.EqNone.eq_bool_none (fin_bl I q (by simp))
    | bl j => cases ry; exact eq_bool (fin_bl I q dec_bl)
    | str j => obtain ⟨t', rfl⟩ := ry; exact PySem.EqMixed.eq_bool_str (fin_bl I q (by simp))
    | _ => exact absurd (show false = true from hs) Bool.false_ne_true
  | int i =>
    obtain ⟨t, rfl⟩ := rx
    cases y with
    | non => cases ry; exact PySem.EqNone.eq_int_none (fin_bl I q (by simp))
    | int j => obtain ⟨t', rfl⟩ := ry; exact eq_int (fin_bl I q dec_int)
    | str j => obtain ⟨t', rfl⟩ := ry; exact PySem.EqMixed.eq_int_str (fin_bl I q (by simp))
    | _ => exact absurd (show false = true from hs) Bool.false_ne_true
  | str i =>
    obtain ⟨t, rfl⟩ := rx
    cases y with
    | non => cases ry; exact PySem.EqNone.eq_str_none (fin_bl I q (by simp))
    | bl j => cases ry; exact PySem.EqMixed.eq_str_bool (fin_bl I q (by simp))
    | int j => obtain ⟨t', rfl⟩ := ry; exact PySem.EqMixed.eq_str_int (fin_bl I q (by simp))
    | str j => obtain ⟨t', rfl⟩ := ry; exact eq_str (fin_bl I q dec_str)
    | _ => exact absurd (show false = true from hs) Bool.false_ne_true
  | byt i =>
    obtain ⟨t, rfl⟩ := rx
    cases y with
    | byt j => obtain ⟨t', rfl⟩ := ry; exact PySem.W.eq_bytes (fin_bl I q dec_byt)
    | _ => exact absurd (show false = true from hs) Bool.false_ne_true
  | _ => cases y <;> exact absurd (show false = true from hs) Bool.false_ne_true
theorem op_ne : OpR X (compareOp .NotEq) rNe := by
  intro pins s σ H x y v u Q I rx ry h
  obtain ⟨hs, q⟩ := h
  cases x with
  | non =>
    cases rx
    cases y with
    | non => cases ry; exact PySem.EqNone.ne_none_none (fin_bl I q (by simp))
    | bl j => cases ry; exact PySem.EqNone.ne_none_bool (fin_bl I q (by simp))
    | int j => obtain ⟨t', rfl⟩ := ry; exact PySem.EqNone.ne_none_int (fin_bl I q (by simp))
    | str j => obtain ⟨t', rfl⟩ := ry; exact PySem.EqNone.ne_none_str (fin_bl I q (by simp))
    | _ => exact absurd (show false = true from hs) Bool.false_ne_true
  | bl i =>
    cases rx
    cases y with
    | non => cases ry; exact PySem.EqNone.ne_bool_none (fin_bl I q (by simp))
    | bl j => cases ry; exact ne_bool (fin_bl I q (congrArg not dec_bl))
    | str j => obtain ⟨t', rfl⟩ := ry; exact PySem.EqMixed.ne_bool_str (fin_bl I q (by simp))
    | _ => exact absurd (show false = true from hs) Bool.false_ne_true
  | int i =>
    obtain ⟨t, rfl⟩ := rx
    cases y with
    | non => cases ry; exact PySem.EqNone.ne_int_none (fin_bl I q (by simp))
    | int j => obtain ⟨t', rfl⟩ := ry; exact ne_int (fin_bl I q (congrArg not dec_int))
    | str j => obtain ⟨t', rfl⟩ := ry; exact PySem.EqMixed.ne_int_str (fin_bl I q (by simp))
    | _ => exact absurd (show false = true from hs) Bool.false_ne_true
  | str i =>
    obtain ⟨t, rfl⟩ := rx
    cases y with
    | non => cases ry; exact PySem.EqNone.ne_str_none (fin_bl I q (by simp))
    | bl j => cases ry; exact PySem.EqMixed.ne_str_bool (fin_bl I q (by simp))
    | int j => obtain ⟨t', rfl⟩ := ry; exact PySem.EqMixed.ne_str_int (fin_bl I q (by simp))
    | str j => obtain ⟨t', rfl⟩ := ry; exact ne_str (fin_bl I q (congrArg not dec_str))
    | _ => exact absurd (show false = true from hs) Bool.false_ne_true
  | byt i =>
    obtain ⟨t, rfl⟩ := rx
    cases y with
    | byt j => obtain ⟨t', rfl⟩ := ry; exact PySem.W.ne_bytes (fin_bl I q (congrArg not dec_byt))
    | _ => exact absurd (show false = true from hs) Bool.false_ne_true
  | _ => cases y <;> exact absurd (show false = true from hs) Bool.false_ne_true

theorem op_lt : OpR X (compareOp .Lt) (rI0 fun i j => .bl (decide (i < j))) := opB0 fun _ _ _ _ _ _ _ q => lt_int q
theorem op_le : OpR X (compareOp .LtE) (rI0 fun i j => .bl (decide (i ≤ j))) := opB0 fun _ _ _ _ _ _ _ q => le_int q
theorem op_gt : OpR X (compareOp .Gt) (rI0 fun i j => .bl (decide (j < i))) := opB0 fun _ _ _ _ _ _ _ q => gt_int q


/-- is, is not of two objects that are tracked lists or instances -/
def isObj : HO → Bool
  | .lst _ => true
  | .ins _ _ _ => true
  | _ => false


theorem nomark (b : Expr) {op : CmpOp} (h : op ≠ .In := by decide) (h2 : op ≠ .NotIn := by decide) : behindInMarks op b = false := by
  have e1 : (op == CmpOp.In) = false := by cases op <;> first | rfl | exact absurd rfl h
  have e2 : (op == CmpOp.NotIn) = false := by cases op <;> first | rfl | exact absurd rfl h2
  cases b <;> simp [behindInMarks, e1, e2]
/-- a comparison as a value; hm: nomark b, or (for in, not in) by with_unfolding_all rfl -/
theorem pe_cmpR {op : CmpOp} {r : R2} (ho : OpR X (compareOp op) r) (ha : PE X a ta) (hb : PE X b tb) (hm : behindInMarks op b = false) : PE X (.Compare a [op] [b] pos) (tOp r ta tb) := by
  intro pins s σ H Q I h
  exact wpAny_Compare1 (binT ha hb I h fun v u s2 x y H2 I2 rx ry q => ho pins s2 σ H2 x y v u Q I2 rx ry q) hm
/-- a reading of a value as a test -/
def tTest (t : TE) : TT := fun σ H Q => t σ H fun x H' => ∃ k, x = .bl k ∧ Q k H'
theorem pt_cmpR {op : CmpOp} {r : R2} (ho : OpR X (compareOp op) r) (ha : PE X a ta) (hb : PE X b tb) (hm : behindInMarks op b = false) : PT X (.Compare a [op] [b] pos) (tTest (tOp r ta tb)) := by
  intro pins s σ H Q I h
  refine wpAny_isTrue_Compare1 (thn (ha pins s σ H _ I h) fun v s1 ⟨x, H1, I1, r1, q1⟩ => thn (hb pins s1 σ H1 _ I1 q1) fun u s2 ⟨y, H2, I2, r2, q2⟩ =>
    thn (ho pins s2 σ H2 x y v u _ I2 r1 r2 q2) fun c s3 ⟨z, H3, I3, r3, k, e, q3⟩ => ?_) hm
  subst e
  cases r3
  exact wpAny_truthy_bool ⟨H3, I3, q3⟩
/-- a op1 b op2 c -/
def tChain (r r' : R2) (ta tb tc : TE) : TE := fun σ H Q => ta σ H fun x H1 => tb σ H1 fun y H2 => r x y H2 fun z H3 => ∃ k, z = .bl k ∧
  (if k = true then tc σ H3 fun w' H4 => r' y w' H4 Q else Q (.bl false) H3)

/-! ### truth -/
/-- a value's truth by the abstract heap -/
def TruV (K : PySem.W.Frag) (x : V) (H : Hp) (k : Bool) : Prop :=
  match x with
  | .non => k = false
  | .bl b => k = b
  | .int i => k = (i != 0)
  | .str y => y.length ≤ sizeLine ∧ k = ((y.length : Int) != 0)
  | .byt y => y.size ≤ sizeLine ∧ k = ((y.size : Int) != 0)
  | .ref p => (∃ xs, SqL K H p xs ∧ k = !xs.isEmpty) ∨ (∃ xs, SqT K H p xs ∧ k = !xs.isEmpty) ∨ ∃ kvs, H p = some (.dK kvs) ∧ k = !kvs.isEmpty
  | _ => False
theorem line63 : (sizeLine : Nat) < 2 ^ 63 := by rw [sizeLine_eq]; decide

/-! ### strs and bytes -/

def PlainIxT (b : Expr) : Prop := ∀ o i, subscripted b false o i = operate [o, i] (getItem o i)

/-! ### scalar builtins, by CallR -/
theorem vals1 {x : V} {us : List Value} (r : Vals [x] us) : ∃ u, us = [u] ∧ RelV x u := by
  cases r with
  | cons r1 r2 => cases r2; exact ⟨_, rfl, r1⟩
theorem call_abs : CallR X (.builtin "abs") (fun xs H Q => ∃ i, xs = [.int i] ∧ Q (.int (if i < 0 then -i else i)) H) := by
  intro pins s σ H xs us Q I r h
  obtain ⟨i, rfl, q⟩ := h
  obtain ⟨u, rfl, t, rfl⟩ := vals1 r
  exact call_abs_int fun u tk => ⟨.int (if i < 0 then -i else i), H, I.tok _, ⟨_, rfl⟩, q⟩
/-- len of a str, a bytes, a list, a tuple -/
def LenV (K : PySem.W.Frag) (x : V) (H : Hp) (n : Nat) : Prop :=
  match x with
  | .str y => y.length ≤ sizeLine ∧ n = y.length
  | .byt y => y.size ≤ sizeLine ∧ n = y.size
  | .ref p => (∃ xs, SqL K H p xs ∧ n = xs.length) ∨ ∃ xs, SqT K H p xs ∧ n = xs.length
  | _ => False
end
end L2

namespace L2
open PySem PySem.Spec PyProof.Rows

/-! ### an instance, its attributes a map -/
structure ObjM (h : Heap) (x dx C : Addr) (mA : Str → Option Value) : Prop where
  obj : h.get? x = some (PySem.W.instObj C dx)
  ns : h.Ns1 dx mA
  ne : dx ≠ x



section
variable {prog : Program} {w : World} {A : Around} {E : Value → Shared → Prop} {s : Shared} {K : PySem.W.Frag} {x dx C f : Addr} {mA : Str → Option Value} {name : Str} {v : Value}





end

/-! ### the attributes as a list of pairs -/
def putF (f : Str) (v : V) : List (Str × V) → List (Str × V)
  | [] => [(f, v)]
  | (g, x) :: r => if g = f then (g, v) :: r else (g, x) :: putF f v r


section
variable {P : Program} {w : World} {H H' : Hp} {h h' : Heap} {a C dx : Addr} {fs fs' : List (Str × V)}
end

/-! ### what of the text a class must have -/
structure Cls (K : PySem.W.Frag) (C : Addr) : Prop where
  pg : PySem.W.plainGet K C Str.empty = true
  hd : PySem.W.hasDictIn K C = true
  po : PySem.W.plainOver K C = true
  sa : PySem.W.findIn K (.ref C) "__setattr__" = some (some (.builtin "object.__setattr__"))
/-- no class of it has the name -/
def NoAttr (K : PySem.W.Frag) (C : Addr) (f : Str) : Prop := PySem.W.findIn K (.ref C) f = some none
/-- a constant of the class -/
structure Con (K : PySem.W.Frag) (C : Addr) (f : Str) (v : V) (u : Value) : Prop where
  at_ : PySem.W.findIn K (.ref C) f = some (some u)
  rel : RelV v u
  get : PySem.W.specialIn K u "__get__" = some none
  cp : PySem.W.copiedNames.contains f = false
/-- a method: a plain def of the class or of one above it -/
structure Meth (K : PySem.W.Frag) (C : Addr) (m : Str) (f : Addr) : Prop where
  at_ : PySem.W.findIn K (.ref C) m = some (some (.ref f))
  fn : PySem.W.isFn K (.ref f) = true
  kp : PySem.W.keepIn K (.ref f) = true

section
variable {X : Cx} {pins : List (Addr × Obj)} {σ : St} {H : Hp} {s : Shared} {a C dx : Addr} {fs : List (Str × V)} {f : Str} {v : V} {A : Around} {E : Value → Shared → Prop}






end

/-! ### readings and rules -/
/-- e.f, an attribute of the instance -/
def tFld (K : PySem.W.Frag) (ta : TE) (f : Str) : TE := fun σ H Q => ta σ H fun x H1 => ∃ a C dx fs v, x = .ref a ∧ H1 a = some (.ins C dx fs) ∧ Cls K C ∧ NoAttr K C f ∧ fs.lookup f = some v ∧ Q v H1
/-- e.f, a constant of the class -/
def tCon (K : PySem.W.Frag) (ta : TE) (f : Str) : TE := fun σ H Q => ta σ H fun x H1 => ∃ a C dx fs v u, x = .ref a ∧ H1 a = some (.ins C dx fs) ∧ Cls K C ∧ Con K C f v u ∧ fs.lookup f = none ∧ Q v H1
/-- e.f = value -/
def sFld (K : PySem.W.Frag) (ta tv : TE) (f : Str) : TS := fun D σ H => tv σ H fun y H1 => ta σ H1 fun x H2 => ∃ a C dx fs, x = .ref a ∧ H2 a = some (.ins C dx fs) ∧ Cls K C ∧ NoAttr K C f ∧ fs.length < 1000 ∧
  D.nx σ (upd H2 a (.ins C dx (putF f y fs)))
/-- an augmented operator on two values -/
def InOp (X : Cx) (op : Operator) (rd : V → V → Hp → VK → Prop) : Prop :=
  ∀ (pins : List (Addr × Obj)) (s : Shared) (σ : St) (H : Hp) (x y : V) (u v : Value) (Q : VK), Inv X pins σ H s → RelV x u → RelV y v → rd x y H Q → wpAny (model X.prog X.w) X.A (inplaceOp op u v) (EP X pins σ Q) X.xe s
/-- e.f op= value -/
def sFldAug (K : PySem.W.Frag) (ta tv : TE) (rd : V → V → Hp → VK → Prop) (f : Str) : TS := fun D σ H => ta σ H fun x H1 => ∃ a C dx fs v, x = .ref a ∧ H1 a = some (.ins C dx fs) ∧ Cls K C ∧ NoAttr K C f ∧ fs.lookup f = some v ∧
  tv σ H1 fun y H2 => rd v y H2 fun z H3 => ∃ dx' fs', H3 a = some (.ins C dx' fs') ∧ fs'.length < 1000 ∧ D.nx σ (upd H3 a (.ins C dx' (putF f z fs')))

section
variable {X : Cx} {o e value : Expr} {f : Str} {pos pos' tpos : Pos} {ta tv : TE}
def rAdd : V → V → Hp → VK → Prop := fun x y H Q => ∃ i j, x = .int i ∧ y = .int j ∧ Q (.int (i + j)) H
def rSub : V → V → Hp → VK → Prop := fun x y H Q => ∃ i j, x = .int i ∧ y = .int j ∧ Q (.int (i - j)) H

end

/-! ### isinstance -/
section
variable {X : Cx} {pins : List (Addr × Obj)} {σ : St} {H : Hp} {s : Shared} {A : Around} {E : Value → Shared → Prop} {Q : Value → Shared → Prop} {c : Value} {b : Bool}
/-- the type of a value, as the fragment's deciders take it; for an instance its class -/
inductive TyOf (K : PySem.W.Frag) (H : Hp) : V → Value → Prop where
  | non : TyOf K H .non (.type "NoneType")
  | bl (x : Bool) : TyOf K H (.bl x) (.type "bool")
  | int (i : Int) : TyOf K H (.int i) (.type "int")
  | str (x : Str) : TyOf K H (.str x) (.type "str")
  | flt (x : UInt64) : TyOf K H (.flt x) (.type "float")
  | lst {a : Addr} {xs : List V} (e : H a = some (.lst xs)) : TyOf K H (.ref a) (.type "list")
  | frz {a : Addr} {o : Obj} {xs : List V} (e : H a = some (.frz o (.lst xs))) : TyOf K H (.ref a) (.type "list")
  | tup {a : Addr} {xs : List V} (e : H a = some (.tup xs)) : TyOf K H (.ref a) (.type "tuple")
  | dK {a : Addr} {kvs : List (Key × V)} (e : H a = some (.dK kvs)) : TyOf K H (.ref a) (.type "dict")
  | dT {a : Addr} {kvs : List (List Key × V)} (e : H a = some (.dT kvs)) : TyOf K H (.ref a) (.type "dict")
  | ins {a C dx : Addr} {fs : List (Str × V)} (e : H a = some (.ins C dx fs)) (cl : Cls K C) (ha : PySem.W.findIn K (.ref C) "__class__" = some (some (.builtin "object.__class__")))
      (hn : PySem.W.specialIn K (.builtin "object.__class__") "__get__" = some (some (.builtin "getset_descriptor.__get__"))) (htk : PySem.W.takesIn K (.builtin "object.__class__") = some true)
      (hm : PySem.W.mroIn K C (.type "object") = some true) : TyOf K H (.ref a) (.ref C)
end
end L2

namespace L2
open PySem PySem.Spec PyProof.Rows

/-! ### room -/
structure Room (k : Nat) (A : Around) : Prop where
  hd : A.handled = none
  dp : A.depth + 3 * k + 5 < recursionLimit
  un : A.units + 16 * k + 200 < cLine
theorem Room.mono {j k : Nat} {A : Around} (r : Room k A) (h : j ≤ k) : Room j A := ⟨r.hd, by have := r.dp; omega, by have := r.un; omega⟩
theorem Room.deeper {k : Nat} {A : Around} (r : Room (k + 1) A) (env : Env) : Room k (A.deeper env) :=
  ⟨r.hd, by have := r.dp; show A.depth + 1 + 3 * k + 5 < _; omega, by have := r.un; show A.units + 3 + 16 * k + 200 < _; omega⟩
theorem Room.depth {k : Nat} {A : Around} (r : Room k A) : A.depth < recursionLimit := by have := r.dp; omega
theorem Room.units {k : Nat} {A : Around} (r : Room k A) : A.units + 64 < cLine := by have := r.un; omega

/-! ### argument lists and displays -/
def tNil : TA := fun _ H Q => Q [] H
def tCons (ta : TE) (tr : TA) : TA := fun σ H Q => ta σ H fun x H1 => tr σ H1 fun xs H2 => Q (x :: xs) H2
section
variable {X : Cx} {e : Expr} {es : List Expr} {te : TE} {t : TA} {pos : Pos}
theorem pa_nil : PA X [] tNil := fun _ _ _ _ H Q I h => Calls.spliced_nil ⟨[], H, I, .nil, h⟩
theorem pa_cons (ha : PE X e te) (hr : PA X es t) (hs : starEach (e :: es) X.env = (false, eval e X.env) :: starEach es X.env := by rfl) : PA X (e :: es) (tCons te t) := by
  intro pos pins s σ H Q I h
  rw [hs]
  show wpAny _ _ (spliced ((false, eval e X.env) :: backTo pos (starEach es X.env))) _ _ s
  refine Calls.spliced_cons (thn (ha pins s σ H _ I h) fun u s1 ⟨x, H1, I1, r1, q1⟩ => ?_)
  exact thn (hr pos pins s1 σ H1 _ I1 q1) fun us s2 ⟨xs, H2, I2, r2, q2⟩ => ⟨x :: xs, H2, I2, .cons r1 r2, q2⟩

/-- a tuple, a list of written items -/
def tTup (t : TA) : TE := fun σ H Q => t σ H fun xs H1 => xs.length ≤ sizeLine ∧ ∀ p, H1 p = none → Q (.ref p) (upd H1 p (.tup xs))
def tLst (t : TA) : TE := fun σ H Q => t σ H fun xs H1 => xs.length ≤ sizeLine ∧ ∀ p, H1 p = none → Q (.ref p) (upd H1 p (.lst xs))
theorem pe_tup {x1} (h : PA X es t) : PE X (.Tuple es x1 pos) (tTup t) := by
  intro pins s σ H Q I hq
  refine wpAny_Tuple_spliced (thn (h pos pins s σ H _ I hq) fun us s1 ⟨xs, H1, I1, r, z, q⟩ => ⟨by rw [← r.length]; exact z, ?_⟩)
  have hf : H1 s1.heap.objs.size = none := I1.hok.fresh (Nat.le_refl _)
  refine ⟨.ref s1.heap.objs.size, upd H1 s1.heap.objs.size (.tup xs), I1.laid (t' := s1.toks) (fun b u e => Heap.get?_push_of_some _ e) (Nat.le_refl _) ?_, rfl, q _ hf⟩
  exact ⟨z, us, r, ⟨_, Heap.get?_push_size _ rfl, rfl, _, rfl⟩⟩
theorem pe_lst (h : PA X es t) : PE X (.List es pos) (tLst t) := by
  intro pins s σ H Q I hq
  refine wpAny_List_spliced (thn (h pos pins s σ H _ I hq) fun us s1 ⟨xs, H1, I1, r, z, q⟩ => ⟨by rw [← r.length]; exact z, ?_⟩)
  have hf : H1 s1.heap.objs.size = none := I1.hok.fresh (Nat.le_refl _)
  refine ⟨.ref s1.heap.objs.size, upd H1 s1.heap.objs.size (.lst xs), I1.laid (t' := s1.toks) (fun b u e => Heap.get?_push_of_some _ e) (Nat.le_refl _) ?_, rfl, q _ hf⟩
  exact ⟨z, us, 0, r, Heap.get?_push_size _ rfl⟩
end

/-! ### what a def promises -/
/-- a def's promise: the bound arguments in the parameters' order, the heap, the wanted end, the wanted exception -/
abbrev Sp := List V → Hp → VK → XK → Prop
/-- how an exception lies behind a call (file 08 gives it): the callers' frames, abstract heap and state ahead of the call, the wish, the exception, the state -/
abbrev CXT := List Env → Hp → Shared → XK → Value → Shared → Prop

/-- the state at a call -/
structure Env0 (P : Program) (w : World) (K : PySem.W.Frag) (mg : Str → Option Value) (base : Heap) (A : Around) (outer : List Env) (s : Shared) (H : Hp) : Prop where
  frames : A.frames = some outer
  mod : Mod K mg base
  bs : ∀ b o, base.get? b = some o → s.heap.get? b = some o ∧ H b = none
  bsz : base.objs.size ≤ s.heap.objs.size
  funs : s.heap.FunFrames base outer
  frf : ∀ b ∈ frs outer, H b = none
  hok : HOk P w H s.heap
  bare : AllBare s.gens
/-- a call's end -/
def CE (outer : List Env) (P : Program) (w : World) (H : Hp) (s : Shared) (Q : VK) (u : Value) (s' : Shared) : Prop :=
  ∃ v H', s'.os = s.os ∧ AllBare s'.gens ∧ Un (frs outer) [] H H' s.heap s'.heap ∧ HOk P w H' s'.heap ∧ RelV v u ∧ Q v H'
def CR (CX : CXT) (outer : List Env) (P : Program) (w : World) (H : Hp) (s : Shared) (Q : VK) (E : XK) (r : Result) (s' : Shared) : Prop :=
  match r with
  | .ok (.ret u) => CE outer P w H s Q u s'
  | .ok _ => False
  | .error e => CX outer H s E e s'
structure FnOk (P : Program) (w : World) (K : PySem.W.Frag) (mg : Str → Option Value) (base : Heap) (CX : CXT) (k : Nat) (f : Addr) (fd : FuncData) (ps : List Str) (sp : Sp) : Prop where
  len : ∀ vs H Q E, sp vs H Q E → vs.length = ps.length
  run : ∀ (A : Around) (outer : List Env) (s : Shared) (H : Hp) (args : Args) (us : List Value) (vs : List V) (Q : VK) (E : XK), Room k A → Env0 P w K mg base A outer s H → BindsTo s fd args (ps.zip us) → Vals vs us → sp vs H Q E →
    codeAny (model P w) A (.call (.ref f) args) (CR CX outer P w H s Q E) s


section
variable {X : Cx} {pins : List (Addr × Obj)} {σ : St} {H : Hp} {s s' : Shared}
/-- from a body: what a callee wants -/
theorem Inv.env0 (I : Inv X pins σ H s) : Env0 X.prog X.w X.K X.mg X.base X.A X.stack s H :=
  ⟨I.ok.frames, I.ok.mod, I.bs, Nat.le_trans I.ok.bsz I.sz, I.stack, I.stkFree, I.hok, I.bare⟩
/-- behind a call -/
theorem Inv.after {Q : VK} {u : Value} (I : Inv X pins σ H s) (h : CE X.stack X.prog X.w H s Q u s') : EP X pins σ Q u s' := by
  obtain ⟨v, H', os, bare, un, hok, r, q⟩ := h
  obtain ⟨hh, g, d, t, os'⟩ := s'
  obtain rfl : os' = s.os := os
  exact ⟨v, H', I.call (h' := hh) (g' := g) (d' := d) (t' := t) (ch := []) un hok bare (fun b z => absurd z (by simp)), r, q⟩
end

/-! ### calls -/
/-- f(..): the written arguments, then the defaults dvs; E: what is wanted of an exception -/
def tCall (sp : Sp) (dvs : List V) (E : XK) (t : TA) : TE := fun σ H Q => t σ H fun vs H1 => sp (vs ++ dvs) H1 Q E
/-- o.m(..) of an instance of the class at C -/
def tMeth (C : Addr) (m : Str) (sp : Sp) (dvs : List V) (E : XK) (ta : TE) (t : TA) : TE := fun σ H Q => ta σ H fun x H1 => ∃ a dx fs, x = .ref a ∧ H1 a = some (.ins C dx fs) ∧ fs.lookup m = none ∧
  t σ H1 fun vs H2 => sp (x :: (vs ++ dvs)) H2 Q E
/-- C(..): a new instance and its dict, then __init__ -/
def tMake (C : Addr) (sp : Sp) (dvs : List V) (E : XK) (t : TA) : TE := fun σ H Q => t σ H fun vs H1 => ∀ x dx, H1 x = none → H1 dx = none → dx ≠ x →
  sp (.ref x :: (vs ++ dvs)) (upd (upd H1 dx (.own x)) x (.ins C dx [])) (fun v H2 => v = .non ∧ Q (.ref x) H2) E

/-- how the parameters are bound: us the positional arguments, kw the keywords' values by name, ds the defaults that fill up -/
def Binds (K : PySem.W.Frag) (fd : FuncData) (ps : List Str) (ds : List Value) : Prop :=
  ∀ (s : Shared) (us : List Value), K.In s.heap → (us ++ ds).length = ps.length → BindsTo s fd ⟨us, []⟩ (ps.zip (us ++ ds))
/-- every parameter is given -/
theorem Binds.all {K : PySem.W.Frag} {fd : FuncData} {ps : List Str} (h : ∀ us : List Value, us.length = ps.length → bindArgs fd ⟨us, []⟩ = pure (ps.zip us)) : Binds K fd ps [] := fun s us _ hl => by
  rw [List.append_nil] at hl ⊢
  exact .of_eq (h us hl)

/-- an exception of a callee reaches what this body wants of exceptions -/
def Passes (CX : CXT) (X : Cx) (E : XK) : Prop := ∀ (pins : List (Addr × Obj)) (σ : St) (H : Hp) (s : Shared) (e : Value) (s' : Shared), Inv X pins σ H s → CX X.stack H s E e s' → X.xe e s'

section
variable {X : Cx} {CX : CXT} {k : Nat} {f C : Addr} {fd : FuncData} {ps : List Str} {sp : Sp} {dvs : List V} {ds : List Value} {E : XK} {x m : Str} {p pos apos : Pos} {e o : Expr} {es : List Expr} {ta : TE} {t : TA}

/-- the callee runs -/
theorem run_fn {pins : List (Addr × Obj)} {σ : St} {H : Hp} {s : Shared} {Q : VK} {us : List Value} {vs : List V} (F : FnOk X.prog X.w X.K X.mg X.base CX k f fd ps sp) (hr : Room k X.A) (hb : Binds X.K fd ps ds) (hd : Vals dvs ds) (hx : Passes CX X E)
    (I : Inv X pins σ H s) (r : Vals vs us) (h : sp (vs ++ dvs) H Q E) : wpAny (model X.prog X.w) X.A (call (.ref f) us) (EP X pins σ Q) X.xe s := by
  have r2 : Vals (vs ++ dvs) (us ++ ds) := r.append hd
  have hl : (us ++ ds).length = ps.length := by rw [← r2.length]; exact F.len _ _ _ _ h
  refine wpAny_call (codeAny_mono (F.run X.A X.stack s H ⟨us, []⟩ (us ++ ds) (vs ++ dvs) Q E hr I.env0 (hb s us I.kIn hl) r2 h) fun r s' hq => ?_)
  cases r with
  | error e => exact hx pins σ H s e s' I hq
  | ok fl =>
    cases fl with
    | ret u => exact I.after hq
    | next => exact False.elim hq
    | brk => exact False.elim hq
    | cont => exact False.elim hq

theorem pe_call (F : FnOk X.prog X.w X.K X.mg X.base CX k f fd ps sp) (hr : Room k X.A) (hg : Gl X x) (hm : X.mg x = some (.ref f)) (hk : PySem.W.keepIn X.K (.ref f) = true) (hb : Binds X.K fd ps ds) (hd : Vals dvs ds) (hx : Passes CX X E)
    (ha : PA X (e :: es) t) (hdb : (x == ("__debug__" : Str)) = false := by decide) (he : starEach (e :: es) X.env = (false, eval e X.env) :: starEach es X.env := by rfl) (hpl : (backTo pos (starEach es X.env)).any (·.1) = false := by rfl) :
    PE X (.Call (.Name x p) (e :: es) [] pos) (tCall sp dvs E t) := by
  intro pins s σ H Q I h
  refine wpAny_Call_Name_kw (ld_glob I hg hm ?_ hdb)
  refine PySem.W.callWith_K (h₀ := X.base) I.ok.mod.kin hk (thn (ha pos pins s σ H _ I h) fun us s1 ⟨vs, H1, I1, r, q⟩ => ⟨I1.kIn, ?_⟩) he hpl
  exact run_fn F hr hb hd hx I1 r q


/-- what a class must have to be made -/
structure Mk (K : PySem.W.Frag) (C f : Addr) : Prop where
  makes : PySem.W.makesIn K C = true
  init : PySem.W.findIn K (.ref C) "__init__" = some (some (.ref f))
  fn : PySem.W.isFn K (.ref f) = true
  kp : PySem.W.keepIn K (.ref C) = true

end

/-! ### keywords -/
/-- the values of the keywords, from the left -/
def PK (X : Cx) (kws : List Keyword) (t : TA) : Prop :=
  ∀ (pos : Pos) (pins : List (Addr × Obj)) (s : Shared) (σ : St) (H : Hp) (Q : List V → Hp → Prop), Inv X pins σ H s → t σ H Q → wpAny (model X.prog X.w) X.A (evalAll ((backToKw pos (keywordEach kws X.env)).map (·.2))) (AP X pins σ Q) X.xe s
section
variable {X : Cx} {CX : CXT} {k : Nat} {f C : Addr} {fd : FuncData} {ps ks : List Str} {sp : Sp} {E : XK} {x m : Str} {p pos apos kpos : Pos} {e o : Expr} {es : List Expr} {kws : List Keyword} {te ta : TE} {t tk : TA} {nm : Option Str}

/-- how a call with keywords binds: g puts the positional values us and the keywords' values ws (names ks) in the parameters' order, defaults among them -/
structure KBinds (K : PySem.W.Frag) (fd : FuncData) (ps ks : List Str) (g : List Value → List Value → List Value) (gV : List V → List V → List V) : Prop where
  to : ∀ (s : Shared) (us ws : List Value), K.In s.heap → (g us ws).length = ps.length → BindsTo s fd ⟨us, ks.zip ws⟩ (ps.zip (g us ws))
  rel : ∀ {vs : List V} {us : List Value} {zs : List V} {ws : List Value}, Vals vs us → Vals zs ws → Vals (gV vs zs) (g us ws)
def tCallK (sp : Sp) (gV : List V → List V → List V) (E : XK) (t tk : TA) : TE := fun σ H Q => t σ H fun vs H1 => tk σ H1 fun zs H2 => sp (gV vs zs) H2 Q E
variable {g : List Value → List Value → List Value} {gV : List V → List V → List V}
end

/-! ### a def's body keeps its promise -/
/-- names: the parameters first -/
structure FnScope (N P : List Str) (sc : Scope) : Prop where
  kind : sc.kind = .function
  co : sc.isCoroutine = false
  gen : sc.isGenerator = false
  nd : N.Nodup
  pre : N.take P.length = P
  par : ∀ x ∈ P, sc.names.lookup x = some .local ∨ sc.names.lookup x = some .cell
  nofree : ∀ y ∈ sc.names, y.2 ≠ .free

theorem bindL_out {kindOf : Str → Option NameKind} {x : Str} : ∀ {binds : List (Str × Value)} {m : Str → Option Value}, (∀ v, (x, v) ∉ binds) → bindL kindOf binds m x = m x
  | [], _, _ => rfl
  | (n, v) :: r, m, h => by
    unfold bindL
    rw [bindL_out fun w hw => h w (List.mem_cons_of_mem _ hw)]
    split
    · have : x ≠ n := by rintro rfl; exact h v List.mem_cons_self
      simp [this]
    · rfl
theorem bindC_out {kindOf : Str → Option NameKind} {x : Str} : ∀ {binds : List (Str × Value)} {m : Str → Option Value}, (∀ v, (x, v) ∉ binds) → bindC kindOf binds m x = m x
  | [], _, _ => rfl
  | (n, v) :: r, m, h => by
    unfold bindC
    rw [bindC_out fun w hw => h w (List.mem_cons_of_mem _ hw)]
    split
    · rfl
    · have : x ≠ n := by rintro rfl; exact h v List.mem_cons_self
      simp [this]
theorem bindL_get {kindOf : Str → Option NameKind} {x : Str} {v : Value} : ∀ {P : List Str} {vs : List Value} {i : Nat} {m : Str → Option Value}, P.Nodup → P[i]? = some x → vs[i]? = some v → kindOf x = some .local →
    bindL kindOf (P.zip vs) m x = some v
  | [], _, _, _, _, h, _, _ => by simp at h
  | _ :: _, [], _, _, _, _, h, _ => by simp at h
  | p :: P, w :: vs, 0, m, nd, h1, h2, hk => by
    simp at h1 h2; subst h1; subst h2
    show bindL kindOf ((p, w) :: P.zip vs) m p = _
    unfold bindL
    rw [bindL_out fun v hv => (List.nodup_cons.mp nd).1 (List.of_mem_zip hv).1, if_pos hk]
    simp
  | p :: P, w :: vs, i + 1, m, nd, h1, h2, hk => by
    show bindL kindOf ((p, w) :: P.zip vs) m x = _
    unfold bindL
    exact bindL_get (i := i) (List.nodup_cons.mp nd).2 (by simpa using h1) (by simpa using h2) hk
theorem bindC_get {kindOf : Str → Option NameKind} {x : Str} {v : Value} : ∀ {P : List Str} {vs : List Value} {i : Nat} {m : Str → Option Value}, P.Nodup → P[i]? = some x → vs[i]? = some v → kindOf x ≠ some .local →
    bindC kindOf (P.zip vs) m x = some v
  | [], _, _, _, _, h, _, _ => by simp at h
  | _ :: _, [], _, _, _, _, h, _ => by simp at h
  | p :: P, w :: vs, 0, m, nd, h1, h2, hk => by
    simp at h1 h2; subst h1; subst h2
    show bindC kindOf ((p, w) :: P.zip vs) m p = _
    unfold bindC
    rw [bindC_out fun v hv => (List.nodup_cons.mp nd).1 (List.of_mem_zip hv).1, if_neg hk]
    simp
  | p :: P, w :: vs, i + 1, m, nd, h1, h2, hk => by
    show bindC kindOf ((p, w) :: P.zip vs) m x = _
    unfold bindC
    exact bindC_get (i := i) (List.nodup_cons.mp nd).2 (by simpa using h1) (by simpa using h2) hk

/-- the names' values at the entry -/
def start (N : List Str) (vs : List V) : St := vs.map some ++ List.replicate (N.length - vs.length) none

/-- the context of a def's body, at its entry; an exception leaves the frame, then lies as CX says -/
def cxOf (CX : CXT) (P : Program) (w : World) (K : PySem.W.Frag) (mg : Str → Option Value) (base : Heap) (N : List Str) (qual : Str) (scope : Scope) (f : Addr) (cd : Value) (A : Around) (outer : List Env) (s : Shared) (H : Hp) (E : XK) : Cx where
  prog := P
  w := w
  K := K
  mg := mg
  base := base
  A := A.deeper (envOfC qual scope s.heap.objs.size f cd)
  N := N
  s₀ := s
  H₀ := H
  env := envOfC qual scope s.heap.objs.size f cd
  outer := outer
  stack := envOfC qual scope s.heap.objs.size f cd :: outer
  ex := []
  calm := true
  fn := fun _ => true
  pn := []
  xe := fun e s' => wpAny (model P w) (A.deeper (envOfC qual scope s.heap.objs.size f cd)) (leaving (envOfC qual scope s.heap.objs.size f cd) e) (fun _ s'' => CX outer H s E e s'') (fun e' s'' => CX outer H s E e' s'') s'

theorem cell_has {sc : Scope} {n : Nat} {x : Str} (h : sc.names.lookup x = some .cell) : ∃ c, (cellsFrom n sc.names []).lookup x = some c := by
  have q := PySem.W.cellsFrom_some sc.names n [] (.inl h)
  exact Option.isSome_iff_exists.mp q

theorem inv_start {CX : CXT} {P : Program} {w : World} {K : PySem.W.Frag} {mg : Str → Option Value} {base : Heap} {N ps : List Str} {qual : Str} {scope : Scope} {f : Addr} {cd : Value} {A : Around} {outer : List Env} {s s1 : Shared} {H : Hp} {E : XK} {us : List Value} {vs : List V}
    (S : FnScope N ps scope) (hd : A.handled = none) (e0 : Env0 P w K mg base A outer s H) (hl : vs.length = ps.length) (r : Vals vs us)
    (x : InCallC s s.heap.objs.size (bindL (envOfC qual scope s.heap.objs.size f cd).kindOf (ps.zip us) fun _ => none) (cellsFrom (s.heap.objs.size + 1) scope.names []) (bindC (envOfC qual scope s.heap.objs.size f cd).kindOf (ps.zip us) fun _ => none) s1) :
    Inv (cxOf CX P w K mg base N qual scope f cd A outer s H E) [] (start N vs) H s1 := by
  have hpl : ps.length ≤ N.length := by have := congrArg List.length S.pre; rw [List.length_take] at this; omega
  obtain ⟨h1, tk, rfl, hk⟩ := x.done
  have noA : ∀ b : Addr, b ∉ (cxOf CX P w K mg base N qual scope f cd A outer s H E).ex := fun b z => absurd (show b ∈ ([] : List Addr) from z) (by simp)
  refine ⟨⟨e0.mod, S.kind, rfl, rfl, Nat.le_refl _, fun y z c h1 h2 => ?_, fun y hy => ?_, fun y c _ h => ?_, fun _ => hd, Around.frames_deeper e0.frames, .inr ⟨rfl, rfl⟩, fun b z => absurd z (noA b), e0.bs, e0.bsz, fun b _ _ => noA b, fun b z => absurd z (noA b), e0.funs, e0.frf⟩,
    rfl, e0.bare, Un.kept hk, ⟨_, x.toInCall.ns, fun i y v h1 h2 h3 => ?_⟩, fun y c h => ⟨_, x.cell y c h⟩, e0.hok.fresh (Nat.le_refl _), fun y c h => ?_, fun p hp => absurd (show p ∈ ([] : List (Addr × Obj)) from hp) (by simp), e0.hok.kept hk, ?_⟩
  · exact name_of_addr x.apart (PySem.mem_of_lookup h1) (PySem.mem_of_lookup h2)
  · have hy : scope.names.lookup y = some .cell ∨ scope.names.lookup y = some .free := hy
    rcases hy with hy | hy
    · exact cell_has hy
    · exact absurd rfl (S.nofree _ (PySem.mem_of_lookup hy))
  · exact Nat.le_of_lt (x.above y c (PySem.mem_of_lookup h))
  · have hi : i < vs.length := by
      unfold start at h2
      by_cases hi : i < vs.length
      · exact hi
      · rw [List.getElem?_append_right (by simpa using hi)] at h2
        rw [List.getElem?_replicate] at h2
        split at h2 <;> cases h2
    have ha : vs[i]? = some v := by
      unfold start at h2
      rw [List.getElem?_append_left (by simpa using hi), List.getElem?_map] at h2
      cases e : vs[i]? with
      | none => rw [e] at h2; cases h2
      | some a => rw [e] at h2; cases h2; rfl
    obtain ⟨u, hu, rv⟩ := r.get ha
    have hp : ps[i]? = some y := by
      rw [← S.pre, List.getElem?_take_of_lt (by omega)]; exact h1
    have ndP : ps.Nodup := by rw [← S.pre]; exact S.nd.sublist (List.take_sublist _ _)
    refine ⟨u, rv, ?_⟩
    rcases S.par y (List.mem_of_getElem? hp) with k | k
    · exact .inl ⟨k, bindL_get ndP hp hu k⟩
    · obtain ⟨c, e⟩ := cell_has (n := s.heap.objs.size + 1) k
      refine .inr ⟨.inl k, c, e, ?_⟩
      have q := x.cell y c e
      rw [bindC_get ndP hp hu (by show scope.names.lookup y ≠ _; rw [k]; decide)] at q
      exact q
  · exact e0.hok.fresh (Nat.le_of_lt (x.above y c (PySem.mem_of_lookup h)))
  · unfold start
    show _ = N.length
    rw [List.length_append, List.length_map, List.length_replicate]
    omega

/-- THE RULE: a def (or a method) of the text, by its body. The body's reading t is chosen for each entry; it is run at the parameters' values -/
theorem fn_of {CX : CXT} {P : Program} {w : World} {K : PySem.W.Frag} {mg : Str → Option Value} {base : Heap} {k : Nat} {f : Addr} {name qual : Str} {params : Arguments} {body : List Stmt} {scope : Scope} {dV kV doc pm cdv ct oc : Value} {an od : Option Addr}
    {osl : Array (Option Value)} {N ps : List Str} {sp : Sp} (lk : K.lookup f = some ⟨oc, od, .func (PySem.W.fnOf name qual params body scope dV kV doc pm an cdv ct), osl⟩) (hcd : PySem.W.codeIn K cdv qual = true) (S : FnScope N ps scope)
    (len : ∀ vs H Q E, sp vs H Q E → vs.length = ps.length)
    (hbody : ∀ (A : Around) (outer : List Env) (s : Shared) (H : Hp) (vs : List V) (Q : VK) (E : XK), Room k (A.deeper (envOfC qual scope s.heap.objs.size f cdv)) → sp vs H Q E →
      ∃ t, PSs (cxOf CX P w K mg base N qual scope f cdv A outer s H E) body t ∧ t { nx := fun _ H' => Q .non H', rt := Q } (start N vs) H) :
    FnOk P w K mg base CX (k + 1) f (PySem.W.fnOf name qual params body scope dV kV doc pm an cdv ct) ps sp := by
  refine ⟨len, fun A outer s H args us vs Q E hr e0 hb r hsp => ?_⟩
  have hl := len _ _ _ _ hsp
  have KX : K.In s.heap := e0.mod.kin.keeps fun b o e => (e0.bs b o e).1
  have lim : s.heap.NoLimit := e0.mod.nolimit.keeps fun b o e => (e0.bs b o e).1
  have hkind : ∀ y ∈ ps.zip us, scope.names.lookup y.1 = some .local ∨ (scope.names.lookup y.1 = some .cell ∧ ((cellsFrom (s.heap.objs.size + 1) scope.names []).lookup y.1).isSome = true) := fun ⟨n, v⟩ hy => by
    rcases S.par n (List.of_mem_zip hy).1 with q | q
    · exact .inl q
    · exact .inr ⟨q, PySem.W.cellsFrom_some _ _ _ (.inl q)⟩
  refine codeAny_call_function hr.depth (KX _ _ lk) rfl S.co S.gen rfl (PySem.W.codeRec_of KX hcd) (hb _ _ _ _ ?_)
  refine wpAny_newFunctionEnv_cells S.kind hkind fun env he s1 x => ?_
  subst he
  refine ⟨lim.keeps x.toInCall.keep, codeAny_func ?_⟩
  obtain ⟨t, ht, hq⟩ := hbody A outer s H vs Q E (hr.deeper _) hsp
  have I : Inv (cxOf CX P w K mg base N qual scope f cdv A outer s H E) [] (start N vs) H s1 := inv_start S hr.hd e0 hl r x
  refine wpAny_mono (ht [] s1 (start N vs) H _ I hq) (fun fl s' hs => ?_) fun e s' hs => hs
  have fin : ∀ {σ' : St} {H' : Hp} {v : V} {u : Value}, Inv (cxOf CX P w K mg base N qual scope f cdv A outer s H E) [] σ' H' s' → RelV v u → Q v H' → CE outer P w H s Q u s' :=
    fun {σ' H' v u} J rv q => ⟨v, H', J.os, J.bare, J.base, J.hok, rv, q⟩
  cases fl with
  | ret u =>
    obtain ⟨v, σ', H', J, rv, q⟩ := hs
    exact fin J rv q
  | next =>
    obtain ⟨σ', H', J, q⟩ := hs
    exact fin (v := V.non) (u := Value.none) J rfl q
  | brk =>
    obtain ⟨_, _, _, q⟩ := hs
    exact False.elim q
  | cont =>
    obtain ⟨_, _, _, q⟩ := hs
    exact False.elim q
end L2

namespace L2
open PySem PySem.Spec PyProof.Rows
section
variable {X : Cx} {x : Str} {p pos : Pos} {e : Expr} {es : List Expr} {t : TA} {id T : String} {r : List V → Hp → VK → Prop}

def tCB (r : List V → Hp → VK → Prop) (t : TA) : TE := fun σ H Q => t σ H fun vs H1 => r vs H1 Q
/-- f(e, ..), f a built-in function -/
theorem pe_callB (hc : CallR X (.builtin id) r) (hg : Gl X x) (hm : X.mg x = none) (hv : bootBuiltins x = some (.builtin id)) (ha : PA X (e :: es) t) (hn : x ≠ "__name__" := by decide) (hdb : (x == ("__debug__" : Str)) = false := by decide)
    (he : starEach (e :: es) X.env = (false, eval e X.env) :: starEach es X.env := by rfl) (hpl : (backTo pos (starEach es X.env)).any (·.1) = false := by rfl) : PE X (.Call (.Name x p) (e :: es) [] pos) (tCB r t) := by
  intro pins s σ H Q I h
  refine wpAny_Call_Name_kw (ld_blt I hg hm hv ?_ hn hdb)
  exact PyProof.Rows.callWith_builtin1 (thn (ha pos pins s σ H _ I h) fun us s1 ⟨vs, H1, I1, r1, q1⟩ => hc pins s1 σ H1 vs us Q I1 r1 q1) he hpl
/-- T(e, ..), T a built-in type -/
theorem pe_callTy (hc : CallR X (.type T) r) (hg : Gl X x) (hm : X.mg x = none) (hv : bootBuiltins x = some (.type T)) (ha : PA X (e :: es) t) (hn : x ≠ "__name__" := by decide) (hdb : (x == ("__debug__" : Str)) = false := by decide)
    (he : starEach (e :: es) X.env = (false, eval e X.env) :: starEach es X.env := by rfl) (hpl : (backTo pos (starEach es X.env)).any (·.1) = false := by rfl) : PE X (.Call (.Name x p) (e :: es) [] pos) (tCB r t) := by
  intro pins s σ H Q I h
  refine wpAny_Call_Name_kw (ld_blt I hg hm hv ?_ hn hdb)
  exact PyProof.Rows.callWith_type1 (thn (ha pos pins s σ H _ I h) fun us s1 ⟨vs, H1, I1, r1, q1⟩ => hc pins s1 σ H1 vs us Q I1 r1 q1) he hpl
end
end L2

namespace HT
open PySem PyProof.Rows

/-- t < u of tuples of ints -/
def lexLt : List Int → List Int → Bool
  | [], [] => false
  | [], _ :: _ => true
  | _ :: _, [] => false
  | x :: xs, y :: ys => if x = y then lexLt xs ys else decide (x < y)
theorem lexLt_cons (x y : Int) (xs ys : List Int) : lexLt (x :: xs) (y :: ys) = if x = y then lexLt xs ys else decide (x < y) := rfl
theorem lexLt_nil_nil : lexLt [] [] = false := rfl
theorem lexLt_nil_cons (y : Int) (ys : List Int) : lexLt [] (y :: ys) = true := rfl
theorem lexLt_cons_nil (x : Int) (xs : List Int) : lexLt (x :: xs) [] = false := rfl


section
open PySem.SeqAt
open PySem.AutoSeq1 (wpAny_loadPart')
open PySem.MeetsSeq PySem.MeetsSeq2 PySem.MeetsSeq3

end

section
variable {prog : Program} {w : World} {A : Around} {E : Value → Shared → Prop} {s : Shared}



/-! ### t[a:b], not the whole -/
/-- a slice's bound as a place among n (d where it is left out) -/
def sIx (n d : Nat) : Option Int → Nat
  | none => d
  | some v => if v < 0 then (v + (n : Int)).toNat else min v.toNat n
theorem clip_eq (v : Int) (n d : Nat) : (if v < 0 then max (v + (n : Int)) 0 else min v (n : Int)) = ((sIx n d (some v) : Nat) : Int) := by
  show (if v < 0 then max (v + (n : Int)) 0 else min v (n : Int)) = (((if v < 0 then (v + (n : Int)).toNat else min v.toNat n) : Nat) : Int)
  by_cases hv : v < 0
  · simp only [if_pos hv]; omega
  · simp only [if_neg hv]; omega

end
end HT

namespace L2
open PySem PySem.Spec PyProof.Rows

/-! ### the parts of a slice -/
abbrev TO := St → Hp → (Option Int → Hp → Prop) → Prop
/-- a slice's part (left out, or an int) -/
def PO (X : Cx) (e : Option Expr) (t : TO) : Prop :=
  ∀ (pins : List (Addr × Obj)) (s : Shared) (σ : St) (H : Hp) (Q : Option Int → Hp → Prop), Inv X pins σ H s → t σ H Q →
    wpAny (model X.prog X.w) X.A (evalPart e X.env) (fun u s' => ∃ o H', Inv X pins σ H' s' ∧ IsPart u o ∧ Q o H') X.xe s
def tNoPart : TO := fun _ H Q => Q none H
def tPart (t : TE) : TO := fun σ H Q => t σ H fun x H1 => ∃ i, x = .int i ∧ Q (some i) H1

theorem intsAre_of {ns : List Int} : ∀ {us : List Value}, Vals (ns.map V.int) us → IntsAre us ns := by
  induction ns with
  | nil => intro us r; rw [List.map_nil] at r; cases r; exact .nil
  | cons n ns ih =>
    intro us r
    rw [List.map_cons] at r
    cases r with
    | cons r1 r2 =>
      obtain ⟨t, e⟩ := r1
      subst e
      exact .cons n t (ih r2)

section
variable {X : Cx} {e : Expr} {te : TE} {lo hi : Option Expr} {tl th : TO} {pos p2 : Pos}

theorem po_none : PO X none tNoPart := by
  intro pins s σ H Q I h
  rw [evalPart_none]
  exact wpAny_pure ⟨none, H, I, .none, h⟩
theorem po_some (h : PE X e te) : PO X (some e) (tPart te) := by
  intro pins s σ H Q I hw
  rw [evalPart_some]
  refine thn (h pins s σ H _ I hw) fun u s1 ⟨x, H1, I1, r1, q1⟩ => ?_
  obtain ⟨i, rfl, q⟩ := q1
  obtain ⟨t, rfl⟩ := r1
  exact ⟨some i, H1, I1, .int i t, q⟩

/-- what a slice of a value is, by values: the slice object stands at sl -/
def SlR (X : Cx) (r : V → Option Int → Option Int → Hp → VK → Prop) : Prop :=
  ∀ (pins : List (Addr × Obj)) (s : Shared) (σ : St) (H : Hp) (x : V) (v vl vu : Value) (lo hi : Option Int) (sl : Addr) (Q : VK), Inv X pins σ H s → RelV x v → s.heap.IsSliceOf sl vl vu .none → IsPart vl lo → IsPart vu hi → r x lo hi H Q →
    ∃ T id, typeLookup (.type T) "__getitem__" = pure (some (.builtin id)) ∧ s.TypeIs v T ∧ wpAny (model X.prog X.w) X.A (getItem v (.ref sl)) (EP X pins σ Q) X.xe s
def tSl (r : V → Option Int → Option Int → Hp → VK → Prop) (te : TE) (tl th : TO) : TE := fun σ H Q => te σ H fun x H1 => tl σ H1 fun l H2 => th σ H2 fun u H3 => r x l u H3 Q
/-- a[lo:hi], any a -/
theorem pe_slice {r : V → Option Int → Option Int → Hp → VK → Prop} (hr : SlR X r) (he : PE X e te) (hl : PO X lo tl) (hu : PO X hi th) : PE X (.Subscript e (.Slice lo hi none p2) pos) (tSl r te tl th) := by
  intro pins s σ H Q I h
  refine Subscript_ (thn (he pins s σ H _ I h) fun v s1 ⟨x, H1, I1, r1, q1⟩ => ?_)
  refine wpAny_Slice (thn (hl pins s1 σ H1 _ I1 q1) fun vl s2 ⟨l, H2, I2, pl, q2⟩ => thn (hu pins s2 σ H2 _ I2 q2) fun vu s3 ⟨u, H3, I3, pu, q3⟩ => ?_)
  rw [evalPart_none]
  refine wpAny_pure ?_
  have I4 : Inv X pins σ H3 { s3 with heap := s3.heap.push { cls := .type "slice", data := .fields #[vl, vu, .none] } } := I3.kept (t' := s3.toks) fun b ob q => Heap.get?_push_of_some _ q
  obtain ⟨T, id, hT, ht, hg⟩ := hr pins { s3 with heap := s3.heap.push { cls := .type "slice", data := .fields #[vl, vu, .none] } } σ H3 x v vl vu l u s3.heap.objs.size Q I4 r1 (Heap.IsSliceOf.new ..) pl pu q3
  show wpAny (model X.prog X.w) X.A (subscriptTail e (.Slice lo hi none p2) v (.ref s3.heap.objs.size)) (EP X pins σ Q) X.xe { s3 with heap := s3.heap.push { cls := .type "slice", data := .fields #[vl, vu, .none] } }
  exact tail_any (ops := [.ref s3.heap.objs.size, v]) ht hT hg (by with_unfolding_all rfl)

/-- the items of xs[lo:hi] -/
def cutV (xs : List V) (lo hi : Option Int) : List V := (xs.drop (HT.sIx xs.length 0 lo)).take (HT.sIx xs.length xs.length hi - HT.sIx xs.length 0 lo)
theorem cutV_length (xs : List V) (lo hi : Option Int) : (cutV xs lo hi).length ≤ xs.length := by
  unfold cutV
  rw [List.length_take, List.length_drop]
  omega
/-- t[lo:hi], not the whole of it (the whole would be t itself) -/
def rSlT (K : PySem.W.Frag) : V → Option Int → Option Int → Hp → VK → Prop := fun x lo hi H Q => ∃ a xs, x = .ref a ∧ SqT K H a xs ∧
  ¬ (HT.sIx xs.length 0 lo = 0 ∧ HT.sIx xs.length xs.length hi = xs.length) ∧ ∀ p, H p = none → Q (.ref p) (upd H p (.tup (cutV xs lo hi)))

/-! ### t < u, t + u -/
def rLtT (K : PySem.W.Frag) : R2 := fun x y H Q => ∃ a b ns ms, x = .ref a ∧ y = .ref b ∧ SqT K H a (ns.map V.int) ∧ SqT K H b (ms.map V.int) ∧ Q (.bl (HT.lexLt ns ms)) H
/-- t + u, t not empty: u empty gives t itself -/
def rCatT (K : PySem.W.Frag) : R2 := fun x y H Q => ∃ a b xs ys, x = .ref a ∧ y = .ref b ∧ SqT K H a xs ∧ SqT K H b ys ∧ xs ≠ [] ∧ xs.length + ys.length ≤ sizeLine ∧
  (ys = [] → Q (.ref a) H) ∧ (ys ≠ [] → ∀ p, H p = none → Q (.ref p) (upd H p (.tup (xs ++ ys))))
end
end L2

namespace L2
open PySem PySem.Spec PyProof.Rows

/-! ### places -/
/-- the place that an index of any sign means -/
def ixN (n : Nat) (i : Int) : Option Nat := if 0 ≤ i then (if i < n then some i.toNat else none) else if -(n : Int) ≤ i then some (i + n).toNat else none
def atI {α : Type} (xs : List α) (i : Int) : Option α := (ixN xs.length i).bind fun j => xs[j]?
theorem ixN_seq {n : Nat} {i : Int} {j : Nat} (h : ixN n i = some j) : seqIndex? i n = some j ∧ j < n ∧ -(n : Int) ≤ i ∧ i < n := by
  unfold ixN at h
  by_cases h0 : 0 ≤ i
  · rw [if_pos h0] at h
    by_cases h1 : i < n
    · rw [if_pos h1] at h
      have e : i.toNat = j := Option.some.inj h
      exact ⟨by rw [seqIndex_of h0 h1, e], by omega, by omega, h1⟩
    · rw [if_neg h1] at h; cases h
  · rw [if_neg h0] at h
    by_cases h1 : -(n : Int) ≤ i
    · rw [if_pos h1] at h
      have e : (i + n).toNat = j := Option.some.inj h
      exact ⟨by rw [seqIndex_neg (by omega) h1, e], by omega, h1, by omega⟩
    · rw [if_neg h1] at h; cases h
theorem atI_get {α : Type} {xs : List α} {i : Int} {v : α} (h : atI xs i = some v) : ∃ j, seqIndex? i xs.length = some j ∧ xs[j]? = some v ∧ j < xs.length ∧ -(xs.length : Int) ≤ i ∧ i < xs.length := by
  unfold atI at h
  cases e : ixN xs.length i with
  | none => rw [e] at h; cases h
  | some j =>
    rw [e] at h
    obtain ⟨h1, h2, h3, h4⟩ := ixN_seq e
    exact ⟨j, h1, h, h2, h3, h4⟩
theorem atI_nat {α : Type} {xs : List α} {j : Nat} {v : α} (h : xs[j]? = some v) : atI xs (j : Int) = some v := by
  have hj : j < xs.length := (List.getElem?_eq_some_iff.mp h).1
  have e : ixN xs.length (j : Int) = some j := by
    unfold ixN
    rw [if_pos (by omega), if_pos (by omega)]; simp
  unfold atI; rw [e]; exact h

/-! ### what may be subscripted -/
/-- what stands as an index of a plain subscript -/
def PlainIx (b : Expr) : Prop := ∀ o i, subscripted b false o i = operate [o, i] (getItem o i)
/-- a subscript by values -/
def IxR (X : Cx) (r : R2) : Prop :=
  ∀ (value slice : Expr) (pins : List (Addr × Obj)) (s : Shared) (σ : St) (H : Hp) (x y : V) (v u : Value) (Q : VK), Inv X pins σ H s → RelV x v → RelV y u → r x y H Q →
    subscripted slice false v u = operate [v, u] (getItem v u) → wpAny (model X.prog X.w) X.A (subscriptTail value slice v u) (EP X pins σ Q) X.xe s
/-- a call of a builtin's method by values: the receiver, the arguments -/
def MtR (X : Cx) (id : String) (r : V → List V → Hp → VK → Prop) : Prop :=
  ∀ (pins : List (Addr × Obj)) (s : Shared) (σ : St) (H : Hp) (x : V) (xs : List V) (v : Value) (us : List Value) (Q : VK), Inv X pins σ H s → RelV x v → Vals xs us → r x xs H Q →
    wpAny (model X.prog X.w) X.A (call (.builtin id) (v :: us)) (EP X pins σ Q) X.xe s
section
variable {X : Cx} {a b : Expr} {ta tb : TE} {pos : Pos}
/-- a[b] -/
theorem pe_ix {r : R2} (hr : IxR X r) (ha : PE X a ta) (hb : PE X b tb) (hs : PlainIx b) : PE X (.Subscript a b pos) (tOp r ta tb) := by
  intro pins s σ H Q I h
  exact Subscript_ (binT ha hb I h fun v u s2 x y H2 I2 rx ry q => hr a b pins s2 σ H2 x y v u Q I2 rx ry q (hs _ _))

def rIxL (K : PySem.W.Frag) : R2 := fun x y H Q => ∃ p xs i v, x = .ref p ∧ y = .int i ∧ SqL K H p xs ∧ atI xs i = some v ∧ Q v H
def rIxT (K : PySem.W.Frag) : R2 := fun x y H Q => ∃ p xs i v, x = .ref p ∧ y = .int i ∧ SqT K H p xs ∧ atI xs i = some v ∧ Q v H
def rIxS : R2 := fun x y H Q => ∃ z i c, x = .str z ∧ y = .int i ∧ z.length ≤ sizeLine ∧ atI z.cps.toList i = some c ∧ Q (.str ⟨#[c]⟩) H
theorem ix_list : IxR X (rIxL X.K) := by
  intro value slice pins s σ H x y v u Q I rx ry h hs
  obtain ⟨p, xs, i, z, rfl, rfl, hq, he, q⟩ := h
  cases rx
  obtain ⟨t, rfl⟩ := ry
  obtain ⟨its, r, pl, hz⟩ := I.list hq
  obtain ⟨j, h1, h2, h3, h4, h5⟩ := atI_get he
  obtain ⟨w, ew, rw'⟩ := r.get h2
  have hl := r.length
  have hn := line63
  have fin : EP X pins σ Q w s := ⟨z, H, I, rw', q⟩
  by_cases h0 : 0 ≤ i
  · have hj : i.toNat = j := by
      rw [seqIndex_of h0 h5] at h1
      exact Option.some.inj h1
    exact item_listR pl.isList h0 (by omega) (by rw [hj]; simpa using ew) fin hs
  · have hj : (i + (its.toArray.size : Int)).toNat = j := by
      rw [seqIndex_neg (by omega) h4] at h1
      rw [List.size_toArray, ← hl]
      exact Option.some.inj h1
    exact subscriptTail_builtinR (x := w) pl.isList.typeIs slot_list_getitem.lookup
      (wpAny_getItem_list_neg (Q := fun r s' => r = w ∧ EP X pins σ Q r s') pl.isList (by omega) (by rw [List.size_toArray] <;> omega) (by omega) (by rw [hj]; simpa using ew) ⟨rfl, fin⟩) hs
theorem ix_tup : IxR X (rIxT X.K) := by
  intro value slice pins s σ H x y v u Q I rx ry h hs
  obtain ⟨p, xs, i, z, rfl, rfl, hq, he, q⟩ := h
  cases rx
  obtain ⟨t, rfl⟩ := ry
  obtain ⟨its, r, pl, hz⟩ := I.tuple hq
  obtain ⟨j, h1, h2, h3, h4, h5⟩ := atI_get he
  obtain ⟨w, ew, rw'⟩ := r.get h2
  have hl := r.length
  have hn := line63
  have fin : EP X pins σ Q w s := ⟨z, H, I, rw', q⟩
  exact subscriptTail_builtinR (x := w) pl.typeIs slot_tuple_getitem.lookup
    (getItem_tuple (j := j) (Q := fun r s' => r = w ∧ EP X pins σ Q r s') pl (by omega) (by omega) (by rw [List.size_toArray, ← hl]; exact h1) (by simpa using ew) ⟨rfl, fin⟩) hs
/-- list, tuple or str -/
def rIx (K : PySem.W.Frag) : R2 := fun x y H Q => rIxL K x y H Q ∨ rIxT K x y H Q ∨ rIxS x y H Q

/-! ### xs[i] = v, any sign -/
def rSetL : V → V → V → Hp → (Hp → Prop) → Prop := fun o i v H Q => ∃ p xs k j, o = .ref p ∧ i = .int k ∧ H p = some (.lst xs) ∧ ixN xs.length k = some j ∧ Q (upd H p (.lst (xs.set j v)))

/-! ### slices -/
theorem slice_bounds (lo hi : Option Int) (n : Nat) : (sliceBounds lo hi none n).1 = ((HT.sIx n 0 lo : Nat) : Int) ∧ (sliceBounds lo hi none n).2.1 = ((HT.sIx n n hi : Nat) : Int) ∧ (sliceBounds lo hi none n).2.2 = 1 := by
  refine ⟨?_, ?_, rfl⟩
  · cases lo with
    | none => simp [sliceBounds, HT.sIx]
    | some i =>
      simp only [sliceBounds, HT.sIx, Option.getD_none, show (1 : Int) > 0 by decide, if_true]
      by_cases h : i < 0
      · simp only [h, if_true] <;> omega
      · simp only [h, if_false] <;> omega
  · cases hi with
    | none => simp [sliceBounds, HT.sIx]
    | some i =>
      simp only [sliceBounds, HT.sIx, Option.getD_none, show (1 : Int) > 0 by decide, if_true]
      by_cases h : i < 0
      · simp only [h, if_true] <;> omega
      · simp only [h, if_false] <;> omega
theorem slicePick_cut (its : List Value) (lo hi : Option Int) : slicePick its.toArray lo hi none = ((its.drop (HT.sIx its.length 0 lo)).take (HT.sIx its.length its.length hi - HT.sIx its.length 0 lo)).toArray := by
  obtain ⟨h1, h2, h3⟩ := slice_bounds lo hi its.toArray.size
  unfold slicePick
  rw [h1, h2, h3]
  simp only [sliceRange_one, pick_run, List.size_toArray] <;> rfl
/-- xs[lo:hi] of a list: a new list -/
def rSlL (K : PySem.W.Frag) : V → Option Int → Option Int → Hp → VK → Prop := fun x lo hi H Q => ∃ a xs, x = .ref a ∧ SqL K H a xs ∧ ∀ p, H p = none → Q (.ref p) (upd H p (.lst (cutV xs lo hi)))
theorem sl_list : SlR X (rSlL X.K) := by
  intro pins s σ H x v vl vu lo hi sl Q I rx hs pl pu h
  obtain ⟨a, xs, rfl, hx, q⟩ := h
  cases rx
  obtain ⟨its, r, ht, hz⟩ := I.list hx
  have hlen := r.length
  refine ⟨"list", _, slot_list_getitem.lookup, ht.isList.typeIs, ?_⟩
  refine wpAny_getItem_list_slice ht.isList hs pl pu .none (by simp) ?_ (by rw [List.size_toArray] <;> omega)
  rw [slicePick_cut, ← hlen]
  refine ⟨.ref s.heap.objs.size, _, I.laid (t' := s.toks) (o := .lst (cutV xs lo hi)) (fun b ob q => Heap.get?_push_of_some _ q) (Nat.le_refl _) ?_, rfl, q _ (I.hok.fresh (Nat.le_refl _))⟩
  exact ⟨Nat.le_trans (cutV_length xs lo hi) hz, _, 0, (r.drop (HT.sIx xs.length 0 lo)).take (HT.sIx xs.length xs.length hi - HT.sIx xs.length 0 lo), Heap.get?_push_size _ rfl⟩

/-! ### in, not in: flat items -/
def flatV : V → Bool
  | .non => true
  | .bl _ => true
  | .int _ => true
  | .str _ => true
  | _ => false
/-- == of flat values -/
def eqV : V → V → Bool
  | .non, .non => true
  | .bl a, .bl b => a == b
  | .bl a, .int b => (if a then 1 else 0) == b
  | .int a, .bl b => a == (if b then 1 else 0)
  | .int a, .int b => a == b
  | .str a, .str b => a == b
  | _, _ => false
theorem eqAt_V {A : Around} {s : Shared} {y x : V} {u v : Value} (ry : RelV y u) (rx : RelV x v) (fy : flatV y = true) (fx : flatV x = true) : SeqAt.EqAt A s u v (eqV y x) := by
  cases y with
  | non =>
    cases ry
    cases x with
    | non => cases rx; exact SeqAt.EqAt.same _
    | bl b => cases rx; exact SeqAt.EqAt.none_bool b
    | int b => obtain ⟨t, rfl⟩ := rx; exact SeqAt.EqAt.none_int b t
    | str b => obtain ⟨t, rfl⟩ := rx; exact SeqAt.EqAt.none_str b t
    | _ => exact absurd (show false = true from fx) Bool.false_ne_true
  | bl a =>
    cases ry
    cases x with
    | non => cases rx; exact SeqAt.EqAt.bool_none a
    | bl b => cases rx; exact SeqAt.EqAt.bool_bool a b
    | int b => obtain ⟨t, rfl⟩ := rx; exact SeqAt.EqAt.bool_int a b t
    | str b => obtain ⟨t, rfl⟩ := rx; exact SeqAt.EqAt.bool_str a b t
    | _ => exact absurd (show false = true from fx) Bool.false_ne_true
  | int a =>
    obtain ⟨t', rfl⟩ := ry
    cases x with
    | non => cases rx; exact SeqAt.EqAt.int_none a t'
    | bl b => cases rx; exact SeqAt.EqAt.int_bool a t' b
    | int b => obtain ⟨t, rfl⟩ := rx; exact SeqAt.EqAt.int_int a t' b t
    | str b => obtain ⟨t, rfl⟩ := rx; exact SeqAt.EqAt.int_str a t' b t
    | _ => exact absurd (show false = true from fx) Bool.false_ne_true
  | str a =>
    obtain ⟨t', rfl⟩ := ry
    cases x with
    | non => cases rx; exact SeqAt.EqAt.str_none a t'
    | bl b => cases rx; exact SeqAt.EqAt.str_bool a t' b
    | int b => obtain ⟨t, rfl⟩ := rx; exact SeqAt.EqAt.str_int a t' b t
    | str b => obtain ⟨t, rfl⟩ := rx; exact SeqAt.EqAt.str_str a t' b t
    | _ => exact absurd (show false = true from fx) Bool.false_ne_true
  | _ => exact absurd (show false = true from fy) Bool.false_ne_true
/-- the items' answers, read off the values (a value's own answer does not lean on its token) -/
def eqU (x : V) (u : Value) : Bool := match u with
  | .none => eqV .non x
  | .bool b => eqV (.bl b) x
  | .int i _ => eqV (.int i) x
  | .str z _ => eqV (.str z) x
  | _ => false
theorem eqU_of {x y : V} {u : Value} (r : RelV y u) (f : flatV y = true) : eqU x u = eqV y x := by
  cases y with
  | non => cases r; rfl
  | bl b => cases r; rfl
  | int i => obtain ⟨t, rfl⟩ := r; rfl
  | str z => obtain ⟨t, rfl⟩ := r; rfl
  | _ => exact absurd (show false = true from f) Bool.false_ne_true
theorem any_eqU {x : V} : ∀ {xs : List V} {us : List Value}, Vals xs us → xs.all flatV = true → us.any (eqU x) = xs.any fun y => eqV y x
  | _, _, .nil, _ => rfl
  | y :: xs, u :: us, .cons r t, f => by
    rw [List.all_cons, Bool.and_eq_true] at f
    rw [List.any_cons, List.any_cons, eqU_of r f.1, any_eqU t f.2]
theorem mem_eqAt {A : Around} {s : Shared} {x : V} {v : Value} (rx : RelV x v) (fx : flatV x = true) : ∀ {xs : List V} {us : List Value}, Vals xs us → xs.all flatV = true → ∀ u ∈ us, SeqAt.EqAt A s u v (eqU x u)
  | _, _, .nil, _ => fun u hu => by cases hu
  | y :: xs, u :: us, .cons r t, f => fun u' hu => by
    rw [List.all_cons, Bool.and_eq_true] at f
    rcases List.mem_cons.mp hu with rfl | hu
    · rw [eqU_of r f.1]; exact eqAt_V r rx f.1 fx
    · exact mem_eqAt rx fx t f.2 u' hu
def inV (x : V) (xs : List V) : Bool := xs.any fun y => eqV y x
/-- x in a list or tuple of flat items -/
def rIn (K : PySem.W.Frag) (neg : Bool) : R2 := fun x y H Q => ∃ p xs, y = .ref p ∧ (SqL K H p xs ∨ SqT K H p xs) ∧ flatV x = true ∧ xs.all flatV = true ∧ Q (.bl (if neg then !inV x xs else inV x xs)) H
theorem op_in_seq : OpR X (compareOp .In) (rIn X.K false) := by
  intro pins s σ H x y v u Q I rx ry h
  obtain ⟨p, xs, rfl, hq, fx, fs, q⟩ := h
  cases ry
  rcases hq with hq | hq
  · obtain ⟨its, r, pl, hz⟩ := I.list hq
    refine SeqAt.in_listAt (eqU x) pl.isList (fun w hw => mem_eqAt rx fx r fs w (by simpa using hw)) ⟨.bl _, H, I, rfl, ?_⟩
    rw [show its.toArray.any (eqU x) = its.any (eqU x) by simp, any_eqU r fs]
    exact q
  · obtain ⟨its, r, pl, hz⟩ := I.tuple hq
    refine SeqAt.in_tupleAt (eqU x) pl (fun w hw => mem_eqAt rx fx r fs w (by simpa using hw)) ⟨.bl _, H, I, rfl, ?_⟩
    rw [show its.toArray.any (eqU x) = its.any (eqU x) by simp, any_eqU r fs]
    exact q

/-! ### len, list(x), tuple(x) of any list or tuple that is read -/
theorem call_len_seq : CallR X (.builtin "len") (fun xs H Q => ∃ p ys, xs = [.ref p] ∧ (SqL X.K H p ys ∨ SqT X.K H p ys) ∧ Q (.int ys.length) H) := by
  intro pins s σ H xs us Q I r h
  obtain ⟨p, ys, rfl, hq, q⟩ := h
  obtain ⟨u, rfl, rx⟩ := vals1 r
  cases rx
  have hn := line63
  rcases hq with hq | hq
  · obtain ⟨its, r', pl, hz⟩ := I.list hq
    have hlen := r'.length
    exact Calls.call_len_list pl.isList (by simp only [List.size_toArray] <;> omega) ⟨.int ys.length, H, I.tok _, ⟨s.toks + 1, by rw [List.size_toArray, hlen]⟩, q⟩
  · obtain ⟨its, r', pl, hz⟩ := I.tuple hq
    have hlen := r'.length
    exact len_tuple pl (by simp only [List.size_toArray] <;> omega) ⟨.int ys.length, H, I.tok _, ⟨s.toks + 1, by rw [List.size_toArray, hlen]⟩, q⟩
theorem call_list_of : CallR X (.type "list") (fun xs H Q => ∃ p ys, xs = [.ref p] ∧ (SqL X.K H p ys ∨ SqT X.K H p ys) ∧ ∀ l, H l = none → Q (.ref l) (upd H l (.lst ys))) := by
  intro pins s σ H xs us Q I r h
  obtain ⟨p, ys, rfl, hq, q⟩ := h
  obtain ⟨u, rfl, rx⟩ := vals1 r
  cases rx
  have fin : ∀ (its : List Value), Vals ys its → ys.length ≤ sizeLine → ∀ (h' : Heap) (c' : Nat), (∀ b o', s.heap.get? b = some o' → h'.get? b = some o') →
      h'.get? s.heap.objs.size = some { cls := .type "list", dict := none, data := .seq its.toArray c', slots := #[] } → EP X pins σ Q (.ref s.heap.objs.size) { s with heap := h' } := fun its r' hz h' c' kp e =>
    ⟨.ref s.heap.objs.size, _, I.laid (t' := s.toks) kp (Nat.le_refl _) (show ObjOk X.prog X.w _ h' _ (.lst ys) from ⟨hz, its, c', r', e⟩), rfl, q _ (I.hok.fresh (Nat.le_refl _))⟩
  rcases hq with hq | hq
  · obtain ⟨its, r', pl, hz⟩ := I.list hq
    have hlen := r'.length
    obtain ⟨o, ho, hc, n, hd⟩ := pl.isList
    exact call_list_seq p (.inl rfl) ho hc hd (fun h' c' kp e => fin its r' hz h' c' kp e) (by simp only [List.size_toArray] <;> omega)
  · obtain ⟨its, r', pl, hz⟩ := I.tuple hq
    have hlen := r'.length
    obtain ⟨o, ho, hc, n, hd⟩ := pl
    exact call_list_seq p (.inr rfl) ho hc hd (fun h' c' kp e => fin its r' hz h' c' kp e) (by simp only [List.size_toArray] <;> omega)

/-! ### the call of a builtin's method: o.m(..) -/
/-- the value is of that builtin type -/
def tyV (K : PySem.W.Frag) (T : String) (x : V) (H : Hp) : Prop := match x with
  | .str _ => T = "str"
  | .int _ => T = "int"
  | .ref p => (T = "list" ∧ ∃ xs, SqL K H p xs) ∨ (T = "tuple" ∧ ∃ o, K.lookup p = some o ∧ o.cls = .type "tuple" ∧ o.dict = none) ∨
      (T = "dict" ∧ ((∃ kvs, H p = some (.dK kvs)) ∨ ∃ kvs, H p = some (.dT kvs))) ∨ (T = "set" ∧ ∃ S n, H p = some (.set S n))
  | _ => False
theorem tyV_is {pins : List (Addr × Obj)} {σ : St} {H : Hp} {s : Shared} {T : String} {x : V} {v : Value} (I : Inv X pins σ H s) (r : RelV x v) (ty : tyV X.K T x H) :
    s.TypeIs v T ∧ ∀ a, v = .ref a → ∃ ob, s.heap.get? a = some ob ∧ ob.dict = none := by
  cases x with
  | str z =>
    obtain ⟨t, rfl⟩ := r
    cases (show T = "str" from ty)
    exact ⟨typeIs_str s z t, fun _ e => nomatch e⟩
  | int i =>
    obtain ⟨t, rfl⟩ := r
    cases (show T = "int" from ty)
    exact ⟨typeIs_int s i t, fun _ e => nomatch e⟩
  | ref p =>
    cases r
    rcases ty with ⟨rfl, xs, hq⟩ | ⟨rfl, o, hk, hc, hd⟩ | ⟨rfl, hk⟩ | ⟨rfl, S, n, hk⟩
    · obtain ⟨its, _, pl, _⟩ := I.list hq
      refine ⟨pl.isList.typeIs, fun a e => ?_⟩
      cases e
      obtain ⟨o, n, e, c, hd, _⟩ := pl
      exact ⟨o, e, hd⟩
    · refine ⟨⟨o, I.kIn p o hk, hc⟩, fun a e => ?_⟩
      cases e
      exact ⟨o, I.kIn _ o hk, hd⟩
    · have z : ∃ o, s.heap.get? p = some o ∧ o.ExactDict := by
        rcases hk with ⟨kvs, hk⟩ | ⟨kvs, hk⟩
        · obtain ⟨_, _, _, _, o, _, _, e, ex, _⟩ := I.hok p _ hk
          exact ⟨o, e, ex⟩
        · obtain ⟨_, _, _, _, o, _, _, e, ex, _⟩ := I.hok p _ hk
          exact ⟨o, e, ex⟩
      obtain ⟨o, e, ex⟩ := z
      refine ⟨⟨o, e, ex.1⟩, fun a e2 => ?_⟩
      cases e2
      exact ⟨o, e, ex.2.1⟩
    · obtain ⟨o, _, _, _, e, ex, _⟩ := I.hok p _ hk
      refine ⟨⟨o, e, ex.1⟩, fun a e2 => ?_⟩
      cases e2
      exact ⟨o, e, ex.2.1⟩
  | _ => exact False.elim ty
def tBM0 (K : PySem.W.Frag) (T : String) (r : V → List V → Hp → VK → Prop) (to : TE) : TE := fun σ H Q => to σ H fun x H1 => tyV K T x H1 ∧ r x [] H1 Q
def tBM (K : PySem.W.Frag) (T : String) (r : V → List V → Hp → VK → Prop) (to : TE) (t : TA) : TE := fun σ H Q => to σ H fun x H1 => tyV K T x H1 ∧ t σ H1 fun xs H2 => r x xs H2 Q
variable {o e : Expr} {es : List Expr} {to : TE} {t : TA} {name : Str} {apos cpos : Pos} {T id : String} {r : V → List V → Hp → VK → Prop}
theorem pe_bm (pa : PlainAttrs T) (slot : Slot T name id) (hty : typeOf (.builtin id) = pure (.type "method_descriptor")) (hm : MtR X id r) (ho : PE X o to) (ha : PA X (e :: es) t)
    (hbase : attributeBase o name X.env (eval o X.env) = eval o X.env := by rfl)
    (hfew : ((backTo cpos (starEach (e :: es) X.env)).all (fun x => !x.1) && (backToKw cpos (keywordEach [] X.env)).all (fun x => x.1.isSome)
      && decide ((e :: es).length + ([] : List Keyword).length + (if ([] : List Keyword).isEmpty then 0 else 1) < 30)) = true := by rfl)
    (hline : (apos.endLine == cpos.line) = true := by rfl) (hs : starEach (e :: es) X.env = (false, eval e X.env) :: starEach es X.env := by rfl) (hplain : (backTo cpos (starEach es X.env)).any (·.1) = false := by rfl) :
    PE X (.Call (.Attribute o name apos) (e :: es) [] cpos) (tBM X.K T r to t) := by
  intro pins s σ H Q I h
  refine wpAny_Call_method_late hbase hfew hline rfl (thn (ho pins s σ H _ I h) fun v s1 ⟨x, H1, I1, r1, ty, q1⟩ => ?_)
  obtain ⟨h1, h2⟩ := tyV_is I1 r1 ty
  refine ⟨T, id, pa, slot, hty, h1, h2, ?_⟩
  have hA := ha cpos pins s1 σ H1 _ I1 q1
  rw [hs] at hA ⊢
  refine Calls.callWith_builtin (by show (false || (backTo cpos (starEach es X.env)).any (·.1)) = false; rw [hplain] <;> rfl) (Calls.evalArgs_plain ?_)
  exact thn hA fun us s2 ⟨vs, H2, I2, r2, q2⟩ => hm pins s2 σ H2 x vs v us Q I2 r1 r2 q2
/- xs.append(e), list.index on a module's tuple .. are MtR facts of 06m -/
end
end L2

namespace L2
open PySem PySem.Spec PyProof.Rows

def MtM (X : Cx) (id : String) (r : V → List V → Hp → VK → Prop) : Prop :=
  ∀ (pins : List (Addr × Obj)) (s : Shared) (σ : St) (H : Hp) (x : V) (xs : List V) (v : Value) (us : List Value) (Q : VK), Inv X pins σ H s → RelV x v → Vals xs us → r x xs H Q →
    wpAny (model X.prog X.w) X.A (call (.builtin id) (v :: us)) (EP X pins σ Q) X.xe s

/-! ### lists of values -/
theorem Vals.one : ∀ {x : V} {us : List Value}, Vals [x] us → ∃ u, us = [u] ∧ RelV x u
  | _, _, .cons r .nil => ⟨_, rfl, r⟩

section
variable {X : Cx} {pins : List (Addr × Obj)} {σ : St} {H : Hp} {s : Shared} {l b : Addr} {xs ys zs : List V}

/-! ### the two steps: a tracked list is rewritten, a new list is laid -/
theorem Inv.lset {its its' : List Value} {n : Nat} {f : Array Value → Array Value} {t' : Nat} (I : Inv X pins σ H s) (hH : H l = some (.lst xs))
    (e : s.heap.get? l = some { cls := .type "list", data := .seq its.toArray n }) (hf : f its.toArray = its'.toArray) (hv : Vals ys its') (hz : ys.length ≤ sizeLine) :
    Inv X pins σ (upd H l (.lst ys)) { s with heap := s.heap.update l (Obj.mapSeq f), toks := t' } := by
  have q := PySem.IsL.update e f
  rw [hf] at q
  refine I.write (x := l) (e := l) (by rw [hH]; exact trivial) (.inl rfl) (fun b' u hb hu => (Heap.get?_update_other s.heap (Obj.mapSeq f) (Ne.symm hb)).trans hu) ⟨_, q⟩ ?_
  exact ⟨hz, its', _, hv, q⟩
theorem Inv.lnew {its : List Value} {t' : Nat} (I : Inv X pins σ H s) (hv : Vals ys its) (hz : ys.length ≤ sizeLine) :
    Inv X pins σ (upd H s.heap.objs.size (.lst ys)) { s with heap := s.heap.push { cls := .type "list", data := .seq its.toArray }, toks := t' } :=
  I.laid (fun _ _ q => Heap.get?_push_of_some _ q) (Nat.le_refl _) ⟨hz, its, 0, hv, Heap.get?_push_size _ rfl⟩
theorem Inv.fresh (I : Inv X pins σ H s) : H s.heap.objs.size = none := I.hok.fresh (Nat.le_refl _)
theorem Inv.lstM (I : Inv X pins σ H s) (hH : H l = some (.lst xs)) : xs.length ≤ sizeLine ∧ ∃ (its : List Value) (n : Nat), Vals xs its ∧ xs.length = its.length ∧ s.heap.get? l = some { cls := .type "list", data := .seq its.toArray n } := by
  obtain ⟨z, its, n, r, e⟩ := I.hok l _ hH
  exact ⟨z, its, n, r, r.length, e⟩

end

section
variable {X : Cx}

/-! ### methods -/
def rAppend : V → List V → Hp → VK → Prop := fun x vs H Q => ∃ l xs y, x = .ref l ∧ vs = [y] ∧ H l = some (.lst xs) ∧ xs.length < sizeLine ∧ Q .non (upd H l (.lst (xs ++ [y])))
theorem mt_append : MtM X "list.append" rAppend := by
  intro pins s σ H x vs v us Q I rx rv h
  obtain ⟨l, xs, y, rfl, rfl, hH, hz, q⟩ := h
  cases rx
  obtain ⟨u, rfl, ru⟩ := rv.one
  obtain ⟨z, its, n, r, hl, e⟩ := I.lstM hH
  refine call_meets F.slot_list_append ⟨_, e, rfl⟩ F.entry_list_append (F.args_list_append_2 _ _) (PySem.list_append l its.toArray n u (by rw [List.size_toArray]; omega)) ⟨e, ?_⟩
  refine ⟨.non, _, I.lset (its' := its ++ [u]) hH e (by simp) (r.append (.cons ru .nil)) ?_, rfl, q⟩
  rw [List.length_append, List.length_singleton]
  omega

def rExtend : V → List V → Hp → VK → Prop := fun x vs H Q => ∃ l b xs zs, x = .ref l ∧ vs = [.ref b] ∧ H l = some (.lst xs) ∧ H b = some (.lst zs) ∧ xs.length + zs.length ≤ sizeLine ∧ Q .non (upd H l (.lst (xs ++ zs)))

def rPop : V → List V → Hp → VK → Prop := fun x vs H Q => ∃ l xs y, x = .ref l ∧ vs = [] ∧ H l = some (.lst xs) ∧ xs[xs.length - 1]? = some y ∧ Q y (upd H l (.lst xs.dropLast))

def rPopAt : V → List V → Hp → VK → Prop := fun x vs H Q => ∃ l xs i k y, x = .ref l ∧ vs = [.int i] ∧ H l = some (.lst xs) ∧ -(2 ^ 63) ≤ i ∧ i < 2 ^ 63 ∧ seqIndex? i xs.length = some k ∧ xs[k]? = some y ∧ Q y (upd H l (.lst (xs.eraseIdx k)))

def rReverse : V → List V → Hp → VK → Prop := fun x vs H Q => ∃ l xs, x = .ref l ∧ vs = [] ∧ H l = some (.lst xs) ∧ Q .non (upd H l (.lst xs.reverse))

def rClear : V → List V → Hp → VK → Prop := fun x vs H Q => ∃ l xs, x = .ref l ∧ vs = [] ∧ H l = some (.lst xs) ∧ Q .non (upd H l (.lst []))

/-! ### list + list, list += list, list * int -/
def rCat : R2 := fun x y H Q => ∃ l b xs zs, x = .ref l ∧ y = .ref b ∧ H l = some (.lst xs) ∧ H b = some (.lst zs) ∧ xs.length + zs.length ≤ sizeLine ∧ ∀ p, H p = none → Q (.ref p) (upd H p (.lst (xs ++ zs)))
theorem op_cat : OpR X (binaryOp .Add) rCat := by
  intro pins s σ H x y v u Q I rx ry h
  obtain ⟨l, b, xs, zs, rfl, rfl, hH, hB, hz, q⟩ := h
  cases rx
  cases ry
  obtain ⟨z, its, n, r, hl, e⟩ := I.lstM hH
  obtain ⟨z2, its2, n2, r2, hl2, e2⟩ := I.lstM hB
  refine PySem.P.add_list e e2 ?_ (by rw [List.size_toArray, List.size_toArray]; omega)
  have ea : its.toArray ++ its2.toArray = (its ++ its2).toArray := by simp
  rw [ea]
  exact ⟨.ref _, _, I.lnew (t' := s.toks) (r.append r2) (by rw [List.length_append]; omega), rfl, q _ I.fresh⟩
/-- a list times an int (a negative one is nothing) -/
def rRep : R2 := fun x y H Q => ∃ l k xs, x = .ref l ∧ y = .int k ∧ H l = some (.lst xs) ∧ -(2 ^ 63) ≤ k ∧ k < 2 ^ 63 ∧ xs.length * k.toNat ≤ sizeLine ∧
  ∀ p, H p = none → Q (.ref p) (upd H p (.lst (List.replicate k.toNat xs).flatten))

/-! ### del xs[i] -/
end

/-! ### xs[a:b] = ys -/
section
variable {prog : Program} {w : World} {A : Around} {E : Value → Shared → Prop} {s : Shared}
end

section
variable {X : Cx}
end
end L2

namespace L2
open PySem PySem.Spec PyProof.Rows

/-! ### lists of pairs as tables -/
section
variable {κ : Type} [DecidableEq κ]
def valV (kvs : List (κ × V)) (k : κ) : Option V := (kvs.find? fun kv => decide (kv.1 = k)).map (·.2)
/-- in its place, or at the end -/
def putK (kvs : List (κ × V)) (k : κ) (v : V) : List (κ × V) :=
  if (kvs.any fun kv => decide (kv.1 = k)) = true then kvs.map (fun kv => if kv.1 = k then (kv.1, v) else kv) else kvs ++ [(k, v)]
def dropK (kvs : List (κ × V)) (k : κ) : List (κ × V) := kvs.filter fun kv => decide (kv.1 ≠ k)

theorem valV_pos {p : κ × V} {r : List (κ × V)} {k : κ} (e : p.1 = k) : valV (p :: r) k = some p.2 := by simp [valV, List.find?_cons, e]
theorem valV_neg {p : κ × V} {r : List (κ × V)} {k : κ} (e : ¬ p.1 = k) : valV (p :: r) k = valV r k := by simp [valV, List.find?_cons, e]
theorem length_putK (kvs : List (κ × V)) (k : κ) (v : V) : (putK kvs k v).length ≤ kvs.length + 1 := by
  unfold putK
  split
  · rw [List.length_map]; omega
  · rw [List.length_append, List.length_cons, List.length_nil]; omega


end


/-! ### a tracked dict, its keys ints and texts or tuples of these -/
theorem kV_is {P : Program} {w : World} {k : Key} {u : Value} (r : RelV (kV k) u) : (mixKind P w).is k u = true := by
  cases k with
  | inl i => obtain ⟨t, e⟩ := (show ∃ t, u = Value.int i t from r); subst e; exact mixKind_int P w i t
  | inr x => obtain ⟨t, e⟩ := (show ∃ t, u = Value.str x t from r); subst e; exact mixKind_str P w x t
theorem kV_inj {a b : Key} (e : kV a = kV b) : a = b := by
  cases a with
  | inl i => cases b with
    | inl j => have e' : V.int i = V.int j := e; injection e' with e'; rw [e']
    | inr y => exact nomatch (show V.int i = V.str y from e)
  | inr x => cases b with
    | inl j => exact nomatch (show V.str x = V.int j from e)
    | inr y => have e' : V.str x = V.str y := e; injection e' with e'; rw [e']

/-- raw entries of a dict with tuple keys -/
abbrev KT (H : Hp) : List (List Key × V) → List (List Key × Addr × Value) → Prop := Paired fun p q => p.1 = q.1 ∧ H q.2.1 = some (.tup (p.1.map kV)) ∧ RelV p.2 q.2.2

section
variable {P : Program} {w : World} {H : Hp} {h : Heap} {a : Addr}
end

/-- what the dict at a holds at the key y -/
def DGet (H : Hp) (a : Addr) (y : V) (r : Option V) : Prop :=
  (∃ kvs k, Rd H a (.dK kvs) ∧ y = kV k ∧ r = valV kvs k) ∨ ∃ kvs k b, Rd H a (.dT kvs) ∧ y = .ref b ∧ H b = some (.tup (k.map kV)) ∧ r = valV kvs k
/-- the heap behind a[y] = v -/
def DPut (H : Hp) (a : Addr) (y v : V) (H' : Hp) : Prop :=
  (∃ kvs k, H a = some (.dK kvs) ∧ y = kV k ∧ kvs.length < sizeLine ∧ H' = upd H a (.dK (putK kvs k v))) ∨
  ∃ kvs k b, H a = some (.dT kvs) ∧ y = .ref b ∧ H b = some (.tup (k.map kV)) ∧ kvs.length < sizeLine ∧ H' = upd H a (.dT (putK kvs k v))


section
variable {X : Cx} {pins : List (Addr × Obj)} {σ : St} {H : Hp} {s : Shared} {a : Addr} {y v : V} {u r : Value} {o : Option V} {A : Around} {E : Value → Shared → Prop}


end

section
variable {X : Cx} {pins : List (Addr × Obj)} {σ : St} {H : Hp} {s : Shared} {a : Addr} {kvs : List (Key × V)} {k : Key} {u : Value} {A : Around} {E : Value → Shared → Prop}
end


/-! ### readings and rules -/
/-- the element of a subscription, not a slice -/
def NoSl (i : Expr) : Prop := ∀ ov iv, subscripted i false ov iv = operate [ov, iv] (getItem ov iv)


/-- d[y] -/
def tDGet (td ty : TE) : TE := fun σ H Q => td σ H fun x H1 => ty σ H1 fun y H2 => ∃ a v, x = .ref a ∧ DGet H2 a y (some v) ∧ Q v H2
/-- y in d, y not in d -/
def tDIn (ty td : TE) : TE := fun σ H Q => ty σ H fun y H1 => td σ H1 fun x H2 => ∃ a o, x = .ref a ∧ DGet H2 a y o ∧ Q (.bl o.isSome) H2
def tDNotIn (ty td : TE) : TE := fun σ H Q => ty σ H fun y H1 => td σ H1 fun x H2 => ∃ a o, x = .ref a ∧ DGet H2 a y o ∧ Q (.bl (!o.isSome)) H2
/-- d[y] = v -/
def sDPut (td ty tv : TE) : TS := fun D σ H => tv σ H fun v H1 => td σ H1 fun x H2 => ty σ H2 fun y H3 => ∃ a H4, x = .ref a ∧ DPut H3 a y v H4 ∧ D.nx σ H4
/-- d[y] op= v -/
def sDAug (td ty tv : TE) (rd : V → V → Hp → VK → Prop) : TS := fun D σ H => td σ H fun x H1 => ty σ H1 fun y H2 => ∃ a v, x = .ref a ∧ DGet H2 a y (some v) ∧
  tv σ H2 fun y2 H3 => rd v y2 H3 fun z H4 => ∃ H5, DPut H4 a y z H5 ∧ D.nx σ H5
/-- del d[y] -/
def sDDel (td ty : TE) : TS := fun D σ H => td σ H fun x H1 => ty σ H1 fun y H2 => ∃ a kvs k, x = .ref a ∧ H2 a = some (.dK kvs) ∧ y = kV k ∧ (valV kvs k).isSome = true ∧ D.nx σ (upd H2 a (.dK (dropK kvs k)))

section
variable {X : Cx} {o i e value : Expr} {pos pos' tpos : Pos} {td ty tv : TE}
end


/-! ### displays -/
/-- {}, to be a dict of the kind that is wanted -/
def tDNewK : TE := fun _ H Q => ∀ p, H p = none → Q (.ref p) (upd H p (.dK []))
def tDNewT : TE := fun _ H Q => ∀ p, H p = none → Q (.ref p) (upd H p (.dT []))
section
variable {X : Cx} {pos : Pos}
end

/-- the pairs of a display, from the left -/
def tPairs : List (TE × TE) → St → Hp → (List (V × V) → Hp → Prop) → Prop
  | [], _, H, Q => Q [] H
  | (tk, tv) :: r, σ, H, Q => tk σ H fun x H1 => tv σ H1 fun y H2 => tPairs r σ H2 fun ps H3 => Q ((x, y) :: ps) H3
abbrev VV : List (V × V) → List (Value × Value) → Prop := Paired fun p q => RelV p.1 q.1 ∧ RelV p.2 q.2
def PPs (X : Cx) (pos : Pos) (keys : List (Option Expr)) (values : List Expr) (trs : List (TE × TE)) : Prop :=
  ∀ (pins : List (Addr × Obj)) (s : Shared) (σ : St) (H : Hp) (Q : List (V × V) → Hp → Prop), Inv X pins σ H s → tPairs trs σ H Q →
    wpAny (model X.prog X.w) X.A (evalPairs (pairTrees keys values X.env pos)) (fun vs s' => ∃ ps H', Inv X pins σ H' s' ∧ VV ps vs ∧ Q ps H') X.xe s

def mergeK (kvs more : List (Key × V)) : List (Key × V) := more.foldl (fun acc kv => putK acc kv.1 kv.2) kvs
/-- {k: v, ..} with keys ints and texts; the new dict stands empty while the pairs are made -/
def tDisp (trs : List (TE × TE)) : TE := fun σ H Q => ∀ p, H p = none → tPairs trs σ (upd H p (.dK [])) fun ps H2 => H2 p = some (.dK []) ∧ ∃ kvs : List (Key × V), ps = kvs.map (fun kv => (kV kv.1, kv.2)) ∧ kvs.length ≤ 15 ∧ Q (.ref p) (upd H2 p (.dK (mergeK [] kvs)))


/-! ### methods -/
/-- a method call o.m(e) of a built-in, with one argument: what must be seen of the text -/
structure M1 (X : Cx) (o : Expr) (m : Str) (apos : Pos) (e : Expr) (cpos : Pos) : Prop where
  base : attributeBase o m X.env (eval o X.env) = eval o X.env
  few : ((backTo cpos (starEach [e] X.env)).all (fun x => !x.1) && (backToKw cpos (keywordEach [] X.env)).all (fun x => x.1.isSome)
    && decide (([e] : List Expr).length + ([] : List Keyword).length + (if ([] : List Keyword).isEmpty then 0 else 1) < 30)) = true
  line : (apos.endLine == cpos.line) = true
  trees : backTo cpos (starEach [e] X.env) = [(false, eval e X.env)]
structure M2 (X : Cx) (o : Expr) (m : Str) (apos : Pos) (e f : Expr) (cpos : Pos) : Prop where
  base : attributeBase o m X.env (eval o X.env) = eval o X.env
  few : ((backTo cpos (starEach [e, f] X.env)).all (fun x => !x.1) && (backToKw cpos (keywordEach [] X.env)).all (fun x => x.1.isSome)
    && decide (([e, f] : List Expr).length + ([] : List Keyword).length + (if ([] : List Keyword).isEmpty then 0 else 1) < 30)) = true
  line : (apos.endLine == cpos.line) = true
  trees : backTo cpos (starEach [e, f] X.env) = [(false, eval e X.env), (false, eval f X.env)]

/-- a is a dict, whatever its keys -/
def IsD (H : Hp) (a : Addr) : Prop := (∃ kvs, Rd H a (.dK kvs)) ∨ ∃ kvs, Rd H a (.dT kvs)

section
variable {X : Cx} {pins : List (Addr × Obj)} {σ : St} {H : Hp} {s : Shared} {a : Addr} {y d : V} {u r : Value} {o : Option V} {A : Around} {E : Value → Shared → Prop}
end

def tDGet1 (td ty : TE) : TE := fun σ H Q => td σ H fun x H1 => ∃ a, x = .ref a ∧ IsD H1 a ∧ ty σ H1 fun y H2 => ∃ o, DGet H2 a y o ∧ Q (o.getD .non) H2
def tDGet2 (td ty tx : TE) : TE := fun σ H Q => td σ H fun x H1 => ∃ a, x = .ref a ∧ IsD H1 a ∧ ty σ H1 fun y H2 => tx σ H2 fun z H3 => ∃ o, DGet H3 a y o ∧ Q (o.getD z) H3
/-- d.pop(k): there; d.pop(k, x): there or not -/
def tDPop1 (td ty : TE) : TE := fun σ H Q => td σ H fun x H1 => ∃ a, x = .ref a ∧ IsD H1 a ∧ ty σ H1 fun y H2 => ∃ kvs k v, H2 a = some (.dK kvs) ∧ y = kV k ∧ valV kvs k = some v ∧ Q v (upd H2 a (.dK (dropK kvs k)))
def tDPop2 (td ty tx : TE) : TE := fun σ H Q => td σ H fun x H1 => ∃ a, x = .ref a ∧ IsD H1 a ∧ ty σ H1 fun y H2 => tx σ H2 fun z H3 => ∃ kvs k, H3 a = some (.dK kvs) ∧ y = kV k ∧
  (∀ v, valV kvs k = some v → Q v (upd H3 a (.dK (dropK kvs k)))) ∧ (valV kvs k = none → Q z H3)
section
variable {X : Cx} {o e f : Expr} {apos cpos : Pos} {td ty tx : TE}
end

/-! ### dict(d): a copy -/
section
variable {X : Cx} {pins : List (Addr × Obj)} {σ : St} {H : Hp} {s : Shared} {a : Addr} {kvs : List (Key × V)} {A : Around} {E : Value → Shared → Prop}
end


section
variable {X : Cx} {pins : List (Addr × Obj)} {σ : St} {H : Hp} {s : Shared} {a : Addr} {y : V} {u : Value} {A : Around} {E : Value → Shared → Prop}
end
end L2

namespace Att
open PySem PySem.W PySem.Calls PyProof.Rows

/-! ### the script -/
theorem ints_of_wellAll {P : Params} {h : Heap} : ∀ (ns : List Int) (vs : List Value), WellAll P h vs (ns.map WData.int) → IntsAre vs ns := by
  intro ns
  induction ns with
  | nil =>
    intro vs w
    rw [List.map_nil] at w
    cases w
    exact .nil
  | cons n ns ih =>
    intro vs w
    rw [List.map_cons] at w
    cases w with
    | cons a b =>
      cases a
      exact .cons _ _ (ih _ b)

theorem script_of {l : OpenLaw} {n : Nat} (hn : l.most = some n) {P : Params} {h : Heap} {args : List WData} {vals : List Value}
    (hpre : l.row.toRowW.claim.pre args = true) (hwl : WellAll P h vals args) :
    ∃ a vs ns, vals = [Value.ref a] ∧ args = [WData.list (ns.map WData.int)] ∧ h.get? a = some { cls := .type "list", data := .seq vs.toArray } ∧ IntsAre vs ns ∧ ns.length ≤ n := by
  have hsh : WShape.hasAll [] args [.list .int] = true := (pre_splitW hpre).1
  have hc : l.pre.holds [] { args := args } = true := (pre_splitW hpre).2
  obtain ⟨d, r, rfl, h1, h2⟩ := hasAllW_cons hsh
  obtain rfl := hasAllW_nil h2
  obtain ⟨xs, rfl, h3⟩ := hasW_list h1
  obtain ⟨ns, rfl⟩ := items_int h3
  have hlen : ns.length ≤ n := by
    unfold OpenLaw.pre at hc
    have h4 : (WTm.not (.lt (.lit (.int (n : Int))) (.len (.arg 0)))).holds [] { args := [.list (ns.map .int)] } = true := by
      have h4 := (holds_andW hc).1
      rw [hn] at h4
      exact h4
    have h5 := condW_of h4 (w_not (w_lt w_lit (w_len_list (w_arg rfl))))
    rw [List.length_map] at h5
    refine Nat.le_of_not_lt fun q => ?_
    have q' : (n : Int) < ((ns.length : Nat) : Int) := by omega
    first
      | (rw [decide_eq_true q'] at h5; exact absurd h5 (by decide))
      | (simp at h5; omega)
  cases hwl with
  | cons w1 w2 =>
    cases w2
    cases w1 with
    | list ho hall => exact ⟨_, _, ns, rfl, rfl, ho, ints_of_wellAll ns _ hall, hlen⟩

theorem post_true (l : OpenLaw) (args : List WData) : l.row.toRowW.claim.post args (.bool true) args = true :=
  postW_of (r := l.row.toRowW) (X := (true == true))
    (show WShape.has [] (.bool true) .bool = true by first | rfl | decide | simp [WShape.has, WShape.arms, WShape.armsAll])
    (show (WTm.eq .res (.lit (.bool true))).value [] { args := args, res := some (.bool true), after := args } = some (.bool (true == true)) from w_eq_bool (w_res rfl) w_lit) rfl

/-! ### the attachment: holds_open's last premise (the goal 'hc' behind k_head) from a wpAny of the law's body -/

/-- the same from a codeAny of the CALL (for a layer whose function contracts speak of calls) -/
theorem attach_call {l : OpenLaw} {n : Nat} {q : Program} {loose : List Str} {XP : (Str → Option Value) → Heap → Prop} {YP : World → Heap → Prop} {d : DefRec}
    (hn : l.most = some n) (hdf : d.params.defaults = [])
    (call : ∀ (w : World) (s₀ s₁ : Shared) (mg mb : Str → Option Value) (fa : Addr) (o : Obj) (pm cd doc : Value) (a : Addr) (vs : List Value) (ns : List Int),
      Ground q loose [] XP w s₀ mg mb s₁.heap → YP w s₁.heap →
      s₁.heap.get? fa = some o → o.data = .func (docDef d.name d.params d.body d.scope pm cd doc) → s₁.heap.CodeRec cd d.name → mg d.name = some (.ref fa) →
      s₁.heap.get? a = some { cls := .type "list", data := .seq vs.toArray } → IntsAre vs ns → ns.length ≤ n → s₁.gens = #[] →
      codeAny (model l.prog w) callerA (.call (.ref fa) ⟨[.ref a], []⟩) (fun r s' => r = .ok (.ret (.bool true)) ∧ OldK s₁.heap s'.heap ∧ s'.os = s₁.os ∧ AllBare s'.gens) s₁) :
    WalkO q loose XP YP l.row.toRowW d [] (fun f vs => PySem.call f vs) := by
  intro w s₀ s₁ mg mb G Y fa o pm cd doc dV kV ho hd hcd hD hmg hg args vals as hpre hlay hrd hwl hlo
  obtain rfl : dV = .none := Dflts.none hD hdf
  obtain rfl : kV = .none := Dflts.noKw hD
  obtain ⟨a, vs, ns, rfl, rfl, hobj, hints, hlen⟩ := script_of hn hpre hwl
  refine enter_call (codeAny_mono (call w s₀ s₁ mg mb fa o pm cd doc a vs ns G Y ho (fd_plain hd) hcd hmg hobj hints hlen hg) fun r s' hq => ?_)
  obtain ⟨rfl, h2, h3, h4⟩ := hq
  exact ⟨.inl ⟨.bool true, .bool true, [], rfl, fun _ => rfl, .bool true, post_true l _, fun _ => ⟨List.Pairwise.nil, fun _ hm => (nomatch hm)⟩⟩, h2, h3, h4⟩


/-! ### rules over ANY heap (no ledger) from facts about the written part K: the library's own take a ledger (News) for what they write -/
section
variable {prog : Program} {w : World} {A : Around} {E : Value → Shared → Prop} {s : Shared} {K : Frag}





/-! the whole heap as the ledger: makes every rule that writes through a ledger a rule over any heap -/
def noObjs (h : Heap) : Heap := { h with objs := #[] }
def ledger (h : Heap) (L d : Addr) : List (Addr × Obj) := (List.range h.objs.size).filterMap fun a => if a = L ∨ a = d then none else (h.get? a).map fun o => (a, o)

end
end Att

namespace L2
open PySem PySem.Spec PyProof.Rows

theorem vals_ints : ∀ {vs : List Value} {ns : List Int}, IntsAre vs ns → Vals (ns.map V.int) vs
  | _, _, .nil => .nil
  | _, _, .cons n t h => .cons ⟨t, rfl⟩ (vals_ints h)

/-- nothing is tracked but the script, known to the object (or it is an object of the module) -/
def Only (H : Hp) : Prop := ∀ b, H b = none ∨ ∃ o xs, H b = some (.frz o (.lst xs))

/-- THE HEAD: the law's promise, at the heap behind the top. F, the promise of the law's def, may use that base is part of the heap (so K.In base, base.Ns mainGlobals mg stand in Mod) -/
theorem law_call {P : Program} {w : World} {K : PySem.W.Frag} {mg mb : Str → Option Value} {CX : CXT} {k : Nat} {fa a : Addr} {fd : FuncData} {x : Str} {sp : Sp} {s₁ : Shared} {vs : List Value} {ns : List Int}
    (KX : K.In s₁.heap) (hns : s₁.heap.Ns mainGlobals mg) (hb : s₁.heap.Ns builtinsNs mb) (hbb : ∀ x : Str, x ≠ "__name__" → mb x = bootBuiltins x) (hlim : s₁.heap.NoLimit) (hg : s₁.gens = #[])
    (ha : s₁.heap.get? a = some { cls := .type "list", data := .seq vs.toArray }) (hi : IntsAre vs ns) (hl : ns.length ≤ sizeLine) (hr : Room k callerA)
    (F : ∀ base : Heap, K.In base → base.Ns mainGlobals mg → FnOk P w K mg base CX k fa fd [x] sp) (hbind : ∀ (s : Shared) (u : Value), BindsTo s fd ⟨[u], []⟩ [(x, u)])
    (hsp : ∀ H : Hp, Only H → SqL K H a (ns.map V.int) → sp [.ref a] H (fun v _ => v = .bl true) fun _ _ _ => False)
    (hCX : ∀ H e s', CX [] H s₁ (fun _ _ _ => False) e s' → False) :
    codeAny (model P w) callerA (.call (.ref fa) ⟨[.ref a], []⟩) (fun r s' => r = .ok (.ret (.bool true)) ∧ OldK s₁.heap s'.heap ∧ s'.os = s₁.os ∧ AllBare s'.gens) s₁ := by
  have rv := vals_ints hi
  have lenV := hi.length
  -- from an abstract heap in which nothing but the script may be tracked
  have core : ∀ H : Hp, Only H → SqL K H a (ns.map V.int) → HOk P w H s₁.heap → (∀ b, H b ≠ none → b = a) → (H a ≠ none → K.lookup a = none) →
      codeAny (model P w) callerA (.call (.ref fa) ⟨[.ref a], []⟩) (fun r s' => r = .ok (.ret (.bool true)) ∧ OldK s₁.heap s'.heap ∧ s'.os = s₁.os ∧ AllBare s'.gens) s₁ := by
    intro H hO hS hok hA hK
    have base_of : ∀ {b : Addr} {o : Obj}, s₁.heap.get? b = some o → H b = none → (hidT s₁.heap H).get? b = some o := fun e n => hidT_get e n
    have noA : ∀ {b : Addr} {o : Obj} {es : Array DictEntry} {ep : Nat}, s₁.heap.get? b = some o → o.data = .dict es ep → H b = none := fun {b o es ep} e d => by
      cases q : H b with
      | none => rfl
      | some u =>
        have e' : b = a := hA b (by rw [q]; simp)
        subst e'
        rw [ha] at e; cases e
        have d' : Data.seq vs.toArray _ = Data.dict es ep := d
        cases d'
    have nsK : ∀ {b : Addr} {m : Str → Option Value}, s₁.heap.Ns b m → (hidT s₁.heap H).Ns b m := fun {b m} ⟨o, es, ep, e, d, r⟩ => ⟨o, es, ep, base_of e (noA e d), d, r⟩
    have hKb : K.In (hidT s₁.heap H) := fun b o e => base_of (KX b o e) (by
      cases q : H b with
      | none => rfl
      | some u =>
        have e' : b = a := hA b (by rw [q]; simp)
        subst e'
        rw [hK (by rw [q]; simp)] at e; cases e)
    have hM : Mod K mg (hidT s₁.heap H) := ⟨hKb, nsK hns, ⟨mb, nsK hb, hbb⟩, let ⟨mc, h1, h2⟩ := hlim; ⟨mc, nsK h1, h2⟩⟩
    have e0 : Env0 P w K mg (hidT s₁.heap H) callerA [] s₁ H := ⟨rfl, hM, fun b o e => of_hidT e, Nat.le_of_eq (hidT_size _ _), trivial, fun b hb => absurd (show b ∈ ([] : List Addr) from hb) (by simp), hok, .of_eq hg⟩
    refine codeAny_mono ((F _ hKb (nsK hns)).run callerA [] s₁ H ⟨[.ref a], []⟩ [.ref a] [.ref a] _ _ hr e0 (hbind s₁ (.ref a)) (.cons rfl .nil) (hsp H hO hS)) fun r s' h => ?_
    cases r with
    | error e => exact (hCX H e s' h).elim
    | ok fl =>
      cases fl with
      | next => exact False.elim h
      | brk => exact False.elim h
      | cont => exact False.elim h
      | ret u =>
        obtain ⟨v, H', os, bare, un, hok', r', q⟩ := h
        have q' : v = .bl true := q
        subst q'
        obtain rfl : u = Value.bool true := r'
        refine ⟨rfl, OldK.of_keep fun b o e => ?_, os, bare⟩
        cases q : H b with
        | none => exact un.keep b o e q (by intro z; exact absurd (show b ∈ ([] : List Addr) from z) (by simp)) (by simp)
        | some u =>
          rcases hO b with z | ⟨ob, xs, z⟩
          · rw [q] at z; cases z
          · have z2 := un.frzs b ob _ z
            obtain ⟨e1, _⟩ := hok b _ z
            obtain ⟨e2, _⟩ := hok' b _ z2
            rw [e] at e1; cases e1
            exact e2
  cases hk : K.lookup a with
  | some o =>
    -- the script is one of the module's own objects
    have e := KX a o hk
    rw [ha] at e
    cases e
    refine core (fun _ => none) (fun _ => .inl rfl) (.inr ⟨_, vs.toArray, _, hk, rfl, rfl, rfl, by rw [List.size_toArray, lenV]; exact hl, by simpa using rv⟩) (fun b u z => by have z' : (none : Option HO) = some u := z; cases z') (fun b z => absurd rfl z) fun z => absurd rfl z
  | none =>
    refine core (fun b => if b = a then some (.frz { cls := .type "list", data := .seq vs.toArray } (.lst (ns.map V.int))) else none) (fun b => ?_) (.inl (.inr ⟨{ cls := .type "list", data := .seq vs.toArray }, if_pos rfl⟩)) (fun b u z => ?_) (fun b z => ?_) fun _ => hk
    · by_cases hb : b = a
      · exact .inr ⟨_, _, if_pos hb⟩
      · exact .inl (if_neg hb)
    · by_cases hb : b = a
      · have z' := (if_pos hb).symm.trans z
        cases z'
        subst hb
        exact ⟨ha, by rw [List.length_map]; exact hl, vs, _, rv, ha⟩
      · have z' := (if_neg hb).symm.trans z
        cases z'
    · by_cases hb : b = a
      · exact hb
      · exact absurd (if_neg hb) z
end L2

namespace L2
open PySem PySem.Spec PyProof.Rows

abbrev KOf {K : PySem.W.Frag} {h : Heap} (_ : K.In h) : PySem.W.Frag := K

/-- the goal that k_head leaves (case hc), from the law's promise. F gives the function object fd (K's own) once, then the promise over every base -/
theorem walk_of {l : PySem.W.OpenLaw} {n k : Nat} {q : Program} {loose : List Str} {XP : (Str → Option Value) → Heap → Prop} {YP : World → Heap → Prop} {d : DefRec} {K : Params → PySem.W.Frag} {CX : World → CXT} {sp : World → Sp} {x : Str}
    (hn : l.most = some n) (hn2 : n ≤ sizeLine) (hdf : d.params.defaults = []) (hr : Room k callerA)
    (hY : ∀ (w : World) (h : Heap), YP w h → (K w.params).In h)
    (F : ∀ (w : World) (mg : Str → Option Value) (fa : Addr) (h : Heap), (K w.params).In h → h.Ns mainGlobals mg → mg d.name = some (.ref fa) →
      ∃ fd : FuncData, (∀ (s : Shared) (u : Value), BindsTo s fd ⟨[u], []⟩ [(x, u)]) ∧
        ∀ base : Heap, (K w.params).In base → base.Ns mainGlobals mg → FnOk l.prog w (K w.params) mg base (CX w) k fa fd [x] (sp w))
    (hsp : ∀ (w : World) (H : Hp) (a : Addr) (ns : List Int), ns.length ≤ n → Only H → SqL (K w.params) H a (ns.map V.int) → sp w [.ref a] H (fun v _ => v = .bl true) fun _ _ _ => False)
    (hCX : ∀ (w : World) (H : Hp) (s : Shared) (e : Value) (s' : Shared), CX w [] H s (fun _ _ _ => False) e s' → False) :
    PySem.W.WalkO q loose XP YP l.row.toRowW d [] (fun f vs => PySem.call f vs) := by
  refine Att.attach_call hn hdf fun w s₀ s₁ mg mb fa o pm cd doc a vs ns G Y ho hd hcd hmg hobj hints hlen hg => ?_
  have KX := hY w _ Y
  obtain ⟨fd, hb, hF⟩ := F w mg fa _ KX G.T.g hmg
  exact law_call KX G.T.g G.T.b G.T.builtins G.T.nolimit hg hobj hints (Nat.le_trans hlen hn2) hr hF hb (fun H hO hS => hsp w H a ns hlen hO hS) fun H e s' => hCX w H s₁ e s'
end L2

/- THE LAST THEOREM (shape; LID, My.* are yours):
   My.Adr: a structure of the addresses that your layer names (classes, functions); My.Txt K t: a structure (Prop) of the equations over K;
   My.txt_mk : {K} {implicit addresses ..} (e1 : nsIn K mainGlobals "law" = some (some (.ref f))) (e2 : K.lookup f = some ⟨oc, od, .func (fnOf "law" "law" params body scope dV kV doc pm an cdv ct), sl⟩) (e3 : codeIn K cdv "law" = true) .. : ∃ t, My.Txt K t

set_option maxRecDepth 100000 in
set_option maxHeartbeats 0 in
theorem PySem.Challenge.cw_LID_holds : PySem.Challenge.rw_LID.Holds := by
  w_on; o_law; k_head; (case hw => w_witness2)
  k_fill
  refine L2.walk_of (l := PySem.Challenge.rw_LID) (n := 63) (k := 40) (x := "script") (CX := fun w => ..) (sp := fun _ => My.sp_law) rfl (by decide) rfl ⟨rfl, by decide, by decide⟩ (fun w h Y => PySem.W.kIn_of Y) ?F ?S ?C
  case F =>
    intro w mg fa h KX G hmg
    have T : ∃ t, My.Txt (L2.KOf KX) t := by
      dsimp only [L2.KOf]                          -- K must stand as «<heap const> w.params» for k_is
      refine' My.txt_mk ?e1 ?e2 ?e3 ..
      (case e1 => PySem.W.k_is)                    -- in the order: a name -> its address -> its object -> its parts
      (case e2 => PySem.W.k_is)
      ..
    obtain ⟨t, T⟩ := T
    have e0 := hmg.symm.trans (PySem.W.mg_of KX G T.law)
    cases e0                                       -- fa is the law's own address
    exact ⟨_, fun s u => .of_eq rfl, fun base kb nb => My.law_fn T kb nb⟩     -- if «.of_eq rfl» comes too early: refine' ⟨_, ?b, fun base kb nb => My.law_fn T kb nb⟩; exact fun s u => .of_eq rfl
  case S => exact fun w H a ns hl hO hS => ..
  case C => exact ..
(the tactic k_is has no namespace: write k_is) -/

/-! SHORT WORDS over the layer: a def of the text, its body, what a loop and a test want. -/
namespace L2
open PySem PySem.Spec PyProof.Rows

/-! ### the text by places -/
/-- the j-th statement of a class's body -/
def inClass (s : Stmt) (j : Nat) : Stmt := match s with
  | .ClassDef _ _ _ body _ _ _ _ _ _ _ => body.getD j (.Pass ⟨0, 0, 0, 0⟩)
  | _ => .Pass ⟨0, 0, 0, 0⟩
def defArgs (s : Stmt) : Arguments := match s with
  | .FunctionDef _ a _ _ _ _ _ _ _ _ => a
  | _ => { posonlyargs := [], args := [], vararg := none, kwonlyargs := [], kw_defaults := [], kwarg := none, defaults := [] }
def defBody (s : Stmt) : List Stmt := match s with
  | .FunctionDef _ _ b _ _ _ _ _ _ _ => b
  | _ => []
def defScope (s : Stmt) : Scope := match s with
  | .FunctionDef _ _ _ _ _ _ sc _ _ _ => sc
  | _ => { kind := .function, names := [], isGenerator := false, isCoroutine := false }

/-! ### no exception leaves a def -/
abbrev CX0 : CXT := fun _ _ _ _ _ _ => False
abbrev E0 : XK := fun _ _ _ => False
theorem pass0 {X : Cx} : Passes CX0 X E0 := fun _ _ _ _ _ _ _ h => h.elim

/-! ### a def (or method) of the text as it stands behind the top -/
structure Fun (K : PySem.W.Frag) (x qual : Str) (st : Stmt) (f : Addr) (fd : FuncData) : Prop where
  ex : ∃ (oc : Value) (od : Option Addr) (kV doc pm : Value) (an : Option Addr) (cdv ct : Value) (osl : Array (Option Value)),
    fd = PySem.W.fnOf x qual (defArgs st) (defBody st) (defScope st) .none kV doc pm an cdv ct ∧ K.lookup f = some ⟨oc, od, .func fd, osl⟩ ∧ PySem.W.codeIn K cdv qual = true
  kp : PySem.W.keepIn K (.ref f) = true
section
variable {P : Program} {w : World} {K : PySem.W.Frag} {mg : Str → Option Value} {base : Heap}
/-- THE RULE for a def: its body as a term of rules, and the reading of that term -/
theorem Fun.ok {x qual : Str} {st : Stmt} {f : Addr} {fd : FuncData} {N ps : List Str} {k : Nat} {sp : Sp} (F : Fun K x qual st f fd) (S : FnScope N ps (defScope st)) (len : ∀ vs H Q E, sp vs H Q E → vs.length = ps.length)
    (hbody : ∀ (cdv : Value) (A : Around) (outer : List Env) (s : Shared) (H : Hp) (vs : List V) (Q : VK) (E : XK), Room k (A.deeper (envOfC qual (defScope st) s.heap.objs.size f cdv)) → sp vs H Q E →
      ∃ t, PSs (cxOf CX0 P w K mg base N qual (defScope st) f cdv A outer s H E).nox (defBody st) t ∧ t { nx := fun _ H' => Q .non H', rt := Q } (start N vs) H) : FnOk P w K mg base CX0 (k + 1) f fd ps sp := by
  obtain ⟨oc, od, kV, doc, pm, an, cdv, ct, osl, rfl, lk, hcd⟩ := F.ex
  refine fn_of lk hcd S len fun A outer s H vs Q E hr hsp => ?_
  obtain ⟨t, h, q⟩ := hbody cdv A outer s H vs Q E hr hsp
  exact ⟨t, h.nox, q⟩
/-- how its arguments bind (no defaults): h is «fun _ _ _ _ _ _ us hl => match us, hl with | [_, _], _ => rfl», one _ a parameter -/
theorem Fun.binds {x qual : Str} {st : Stmt} {f : Addr} {fd : FuncData} {ps : List Str} (F : Fun K x qual st f fd)
    (h : ∀ (kV doc pm : Value) (an : Option Addr) (cdv ct : Value) (us : List Value), us.length = ps.length → bindArgs (PySem.W.fnOf x qual (defArgs st) (defBody st) (defScope st) .none kV doc pm an cdv ct) ⟨us, []⟩ = pure (ps.zip us)) : Binds K fd ps [] := by
  obtain ⟨oc, od, kV, doc, pm, an, cdv, ct, osl, rfl, lk, hcd⟩ := F.ex
  exact .all (h kV doc pm an cdv ct)
theorem fun_mk {x qual : Str} {st : Stmt} {f : Addr} {oc : Value} {od an : Option Addr} {osl : Array (Option Value)} {kV doc pm cdv ct : Value} (l : K.lookup f = some ⟨oc, od, .func (PySem.W.fnOf x qual (defArgs st) (defBody st) (defScope st) .none kV doc pm an cdv ct), osl⟩)
    (c : PySem.W.codeIn K cdv qual = true) (k : PySem.W.keepIn K (.ref f) = true) : Fun K x qual st f (PySem.W.fnOf x qual (defArgs st) (defBody st) (defScope st) .none kV doc pm an cdv ct) := ⟨⟨oc, od, kV, doc, pm, an, cdv, ct, osl, rfl, l, c⟩, k⟩
end
theorem hu_of {A : Around} {k : Nat} (hr : Room k A) : A.units + 1 < cLine := Nat.lt_of_le_of_lt (Nat.add_le_add_left (by decide : 1 ≤ 64) _) hr.units
theorem small1000 {n : Nat} (h : n ≤ 1000) : n < sizeLine := Nat.lt_of_le_of_lt h (by decide)

/-! ### expressions in short: the name that stands in the i-th slot -/
section
variable {X : Cx}
theorem pv (i : Nat) {x : Str} {pos : Pos} (hN : X.N[i]? = some x := by rfl) (hv : Vis X.env.scope x := by first | exact Or.inl rfl | exact Or.inr (Or.inl rfl) | exact Or.inr (Or.inr rfl)) (hd : (x == ("__debug__" : Str)) = false := by decide)
    (hcd : (x == ("__classdict__" : Str)) = false := by decide) : PE X (.Name x pos) (tVar i) := pe_var hN hv hd hcd
end

/-! ### tests -/
theorem iteF {A B : Prop} (h : B) : if false = true then A else B := by
  rw [if_neg Bool.false_ne_true]
  exact h
theorem ite2 {c A B : Prop} [Decidable c] (h1 : c → A) (h2 : ¬ c → B) : if c then A else B := by
  by_cases h : c
  · rw [if_pos h]
    exact h1 h
  · rw [if_neg h]
    exact h2 h
theorem iteNS {c A B : Prop} [Decidable c] (hc : c) (h : B) : if (!decide c) = true then A else B := by
  rw [decide_eq_true hc]
  exact iteF h

/-! ### heaps -/
/-- all that was tracked is as it was -/
def Same (H H' : Hp) : Prop := ∀ b o, H b = some o → H' b = some o
theorem Same.refl (H : Hp) : Same H H := fun _ _ h => h
theorem Same.trans {H H1 H2 : Hp} (a : Same H H1) (b : Same H1 H2) : Same H H2 := fun c o h => b c o (a c o h)
theorem Same.free {H H' : Hp} (e : Same H H') {l : Addr} (h : H' l = Option.none) : H l = Option.none := by
  cases q : H l with
  | none => rfl
  | some o =>
    rw [e l o q] at h
    cases h
theorem Same.seq {K : PySem.W.Frag} {H H' : Hp} {a : Addr} {xs : List V} (e : Same H H') (h : SqL K H a xs) : SqL K H' a xs := by
  rcases h with (h | ⟨o, h⟩) | h
  · exact .inl (.inl (e _ _ h))
  · exact .inl (.inr ⟨o, e _ _ h⟩)
  · exact .inr h

/-! ### a dict's pairs: keys that differ -/
section
variable {κ : Type} [DecidableEq κ]
theorem dropK_pos {p : κ × V} {r : List (κ × V)} {k : κ} (e : p.1 = k) : dropK (p :: r) k = dropK r k := by
  unfold dropK
  rw [List.filter_cons, if_neg (by simp [e])]
theorem dropK_neg {p : κ × V} {r : List (κ × V)} {k : κ} (e : ¬ p.1 = k) : dropK (p :: r) k = p :: dropK r k := by
  unfold dropK
  rw [List.filter_cons, if_pos (by simp [e])]
theorem dropK_no : ∀ {kvs : List (κ × V)} {k : κ}, ¬ k ∈ kvs.map (·.1) → dropK kvs k = kvs
  | [], _, _ => rfl
  | p :: r, k, h => by
    have h' : ¬ k ∈ r.map (·.1) := fun m => by
      obtain ⟨q, hq, e⟩ := List.mem_map.mp m
      exact h (List.mem_map.mpr ⟨q, List.mem_cons.mpr (Or.inr hq), e⟩)
    rw [dropK_neg fun e => h (List.mem_map.mpr ⟨p, List.mem_cons.mpr (Or.inl rfl), e⟩), dropK_no h']
theorem dropK_mem {kvs : List (κ × V)} {k : κ} {p : κ × V} (h : p ∈ dropK kvs k) : p ∈ kvs := (List.mem_filter.mp h).1
end
end L2

set_option maxHeartbeats 4000000
/-! ### exceptions of one's own classes: raised, passed on, caught -/
namespace L2
open PySem PySem.Spec PyProof.Rows

/-- how an exception lies behind a call: it flies over B, which has all that is tracked and all that stood ahead but the callers' frames -/
def CXx (P : Program) (w : World) : CXT := fun outer H s E e s' => ∃ (ea : Addr) (cls a0 : Value) (B : Heap) (H' : Hp),
  e = .ref ea ∧ s'.os = s.os ∧ AllBare s'.gens ∧ Un (frs outer) [] H H' s.heap s'.heap ∧ HOk P w H' s'.heap ∧ Heap.FlyingW B outer ea cls a0 s'.heap ∧
  (∀ b u, H' b = some u → ∃ o, B.get? b = some o) ∧ (∀ b o, s.heap.get? b = some o → b ∉ frs outer → ∃ o', B.get? b = some o') ∧ E cls none H'

section
variable {X : Cx} {pins : List (Addr × Obj)} {σ : St} {H : Hp} {s s' : Shared} {E : XK} {e : Value}
/-- a frame of a def -/
structure Own (X : Cx) : Prop where
  st : X.stack = X.env :: X.outer
  fr : X.env.frame = some X.env.locals
  ex : X.ex = []

end


/-- a class of one's own over a built-in exception, as the top has made it -/
structure ExcC (K : PySem.W.Frag) (mg : Str → Option Value) (x : Str) (C : Addr) (bm : List Value) (newId : String) : Prop where
  at_ : mg x = some (.ref C)
  ex : PySem.W.excIn K C bm newId = true
section
variable {P : Program} {w : World} {K : PySem.W.Frag} {mg : Str → Option Value} {base : Heap} {N : List Str} {qual : Str} {scope : Scope} {f : Addr} {cd : Value} {A : Around} {outer : List Env} {s₀ : Shared} {H₀ : Hp} {E : XK}
/-- raise C('..') in a def -/
def tRaise (E : XK) (C : Addr) : TS := fun _ _ H => E (.ref C) none H
end
end L2

/-! ### try, except: a body that may raise, its handlers -/
namespace L2
open PySem PySem.Spec PyProof.Rows

/-- what has been raised in the body of a try: by a call made where the state was s, σ, H -/
def trX (X : Cx) (R : Value → St → Hp → Prop) (e : Value) (s' : Shared) : Prop :=
  ∃ (pins' : List (Addr × Obj)) (σ : St) (H : Hp) (s : Shared), Inv X pins' σ H s ∧ CXx X.prog X.w X.stack H s (fun cls _ H' => R cls σ H') e s'
/-- the context with further pins -/
abbrev Cx.pin (X : Cx) (pins : List (Addr × Obj)) : Cx := { X with pn := X.pn ++ pins }
/-- the context of a try's body -/
abbrev Cx.tr (X : Cx) (pins : List (Addr × Obj)) (R : Value → St → Hp → Prop) : Cx := { X with pn := X.pn ++ pins, xe := trX (X.pin pins) R }
/-- the context of an except suite -/
abbrev Cx.held (X : Cx) (ea : Addr) : Cx := { X with A := X.A.mark (some (.ref ea)), calm := false, xe := fun _ _ => False }

section
variable {X : Cx} {pins pins' : List (Addr × Obj)} {σ : St} {H : Hp} {s : Shared} {R : Value → St → Hp → Prop}
end

/-- an exception of class cls has been caught: s is the state, whose tracked part is H -/
structure Cau (X : Cx) (pins : List (Addr × Obj)) (σ : St) (H : Hp) (ea : Addr) (cls : Value) (s : Shared) : Prop where
  ex : ∃ (H1 : Hp) (s0 : Shared) (B : Heap) (a0 : Value), Inv X pins σ H1 s0 ∧ s.os = s0.os ∧ AllBare s.gens ∧ Un (frs X.stack) [] H1 H s0.heap s.heap ∧ HOk X.prog X.w H s.heap ∧ Heap.FlyingW B X.stack ea cls a0 s.heap ∧
    (∀ b u, H b = some u → ∃ o, B.get? b = some o) ∧ ∀ b o, s0.heap.get? b = some o → b ∉ frs X.stack → ∃ o', B.get? b = some o'


section
variable {X : Cx} {pins : List (Addr × Obj)} {σ : St} {H : Hp} {s : Shared} {ea : Addr} {cls : Value}
end

/-- what the handlers do with an exception of class cls -/
def PH (X : Cx) (hs : List ExceptHandler) (th : Value → TS) : Prop :=
  ∀ (pins : List (Addr × Obj)) (s : Shared) (σ : St) (H : Hp) (D : Ends) (ea : Addr) (cls : Value), Cau X pins σ H ea cls s → th cls D σ H → wpAny (model X.prog X.w) X.A (handleBy (.ref ea) X.env hs) (SP X pins D) X.xe s

/-- try: body, then the handlers; tb: the body's reading, for whatever is wanted of its exceptions -/
def tTry (tb : (Value → St → Hp → Prop) → TS) (th : Value → TS) : TS := fun D σ H => tb (fun cls σ' H' => th cls D σ' H') D σ H

/-- a suite without a name -/
def tHit (K : PySem.W.Frag) (C : Addr) (ts : TS) (tr : Value → TS) : Value → TS := fun cls D σ H => ∃ b, PySem.W.exmOne K cls (.ref C) = some b ∧ if b = true then ts D σ H else tr cls D σ H

/-- an exception object of the class at C -/
def excO (a C : Addr) : HO := .ext fun h => ∃ o vs, h.get? a = some o ∧ o.cls = .ref C ∧ o.data = .fields vs
section
variable {X : Cx} {pins : List (Addr × Obj)} {σ : St} {H : Hp} {s : Shared} {ea C : Addr}
end

/-- a suite with a name -/
def tHitAs (K : PySem.W.Frag) (C : Addr) (i : Nat) (ts : TS) (tr : Value → TS) : Value → TS := fun cls D σ H => ∃ b, PySem.W.exmOne K cls (.ref C) = some b ∧ if b = true then
    ∃ Cx, cls = .ref Cx ∧ ∀ ea, H ea = none → ts { nx := fun σ' H' => D.nx (σ'.set i none) H', rt := D.rt, bk := fun σ' H' => D.bk (σ'.set i none) H', ct := fun σ' H' => D.ct (σ'.set i none) H' } (σ.set i (some (.ref ea))) (upd H ea (excO ea Cx))
  else tr cls D σ H

/-! a call of a class in a try's body: what is wanted of its exceptions hangs on the names' values there -/
def PassS (CX : CXT) (X : Cx) (E : St → XK) : Prop := ∀ (pins : List (Addr × Obj)) (σ : St) (H : Hp) (s : Shared) (e : Value) (s' : Shared), Inv X pins σ H s → CX X.stack H s (E σ) e s' → X.xe e s'
def tMakeS (C : Addr) (sp : Sp) (E : St → XK) (t : TA) : TE := fun σ H Q => t σ H fun vs H1 => ∀ x dx, H1 x = none → H1 dx = none → dx ≠ x →
  sp (.ref x :: vs) (upd (upd H1 dx (.own x)) x (.ins C dx [])) (fun v H2 => v = .non ∧ Q (.ref x) H2) (E σ)
section
variable {X : Cx} {CX : CXT} {k : Nat} {f C : Addr} {fd : FuncData} {ps : List Str} {sp : Sp} {E : St → XK} {x : Str} {p pos : Pos} {e : Expr} {es : List Expr} {t : TA}
end
end L2

/-! ### isinstance of an exception of one's own class -/
namespace L2
open PySem PySem.Spec PyProof.Rows PySem.W Builtin Builtin.ObjectAttr Builtin.Getset_descriptor

/-- what is asked of the class of an exception -/
structure ExcA (K : Frag) (C : Addr) : Prop where
  ga : findIn K (.ref C) "__getattribute__" = some (some (.builtin "BaseException.__getattribute__"))
  gx : findIn K (.ref C) "__getattr__" = some none
  ca : findIn K (.ref C) "__class__" = some (some (.builtin "object.__class__"))
  cn : specialIn K (.builtin "object.__class__") "__get__" = some (some (.builtin "getset_descriptor.__get__"))
  ct : takesIn K (.builtin "object.__class__") = some true
  mo : mroIn K C (.type "object") = some true
  mb : mroIn K C (.type "BaseException") = some true
  cl : (clsIn K C).isSome = true

section
variable {K : Frag} {C x : Addr} {h : Heap} {M : Model}
variable {prog : Program} {w : World} {A : Around} {E : Value → Shared → Prop} {s : Shared}
end

/-- isinstance(error, C), isinstance(error, (C, D)) -/
def rIsi (K : Frag) : List V → Hp → VK → Prop := fun vs H Q => ∃ a C b, H a = some (excO a C) ∧ ExcA K C ∧ Q (.bl b) H ∧
  ((∃ D, vs = [.ref a, .ref D] ∧ kitOne K (.ref C) (.ref D) = some b) ∨ (∃ T, vs = [.ref a, .ty T] ∧ kitOne K (.ref C) (.type T) = some b) ∨
   ∃ (t : Addr) (ds : List Addr), vs = [.ref a, .ref t] ∧ H t = some (.tup (ds.map V.ref)) ∧ kitAny K (.ref C) (ds.map Value.ref) = some b)
end L2

/-! ### The sort of fewer than 64 items, as the tree of its questions: it puts them in order -/
namespace Sx
open PySem.W PyProof.Rows

/-- what the tree gives where the question (i, j) is answered by lt i j; each place asked lies below N -/
def Wp {α : Type} (N : Nat) (lt : Nat → Nat → Bool) : KasT α → (α → Prop) → Prop
  | .ret a, Q => Q a
  | .ask i j k, Q => i < N ∧ j < N ∧ Wp N lt (k (lt i j)) Q
theorem Wp.bind {α β : Type} {N : Nat} {lt : Nat → Nat → Bool} {f : α → KasT β} {Q : β → Prop} : ∀ (t : KasT α), Wp N lt t (fun a => Wp N lt (f a) Q) → Wp N lt (t.bind f) Q
  | .ret _, h => h
  | .ask _ _ k, ⟨h1, h2, h⟩ => ⟨h1, h2, Wp.bind (k _) h⟩

section
variable {O : KeyOrd} (key : Nat → O.α)
/-- the key at a place -/
def KP (p : Array Nat) (i : Nat) : O.α := key (p[i]?.getD 0)
def Up (p : Array Nat) (k : Nat) : Prop := ∀ i j, i ≤ j → j < k → O.kle (KP key p i) (KP key p j)
def Down (p : Array Nat) (k : Nat) : Prop := ∀ i j, i ≤ j → j < k → O.kle (KP key p j) (KP key p i)
def ltK (i j : Nat) : Bool := O.blt (key i) (key j)
/-- p is the numbers below N in some order -/
def PB (N : Nat) (p : Array Nat) : Prop := p.Perm (List.range N).toArray
end
theorem PB.size {N : Nat} {p : Array Nat} (h : PB N p) : p.size = N := by
  have := Array.Perm.size_eq h
  simpa using this
theorem PB.below {N : Nat} {p : Array Nat} (h : PB N p) {i : Nat} (hi : i < N) : p.getD i 0 < N := by
  have hs := h.size
  have hi' : i < p.size := by omega
  have e : p.getD i 0 = p[i] := by simp [Array.getD, hi']
  have hm : p[i] ∈ (List.range N).toArray := (Array.Perm.mem_iff h).mp (Array.getElem_mem hi')
  rw [e]
  simpa using hm
theorem getD_eq (p : Array Nat) (i : Nat) : p.getD i 0 = p[i]?.getD 0 := by simp
theorem PB.rev {N : Nat} {p : Array Nat} (h : PB N p) (i j : Nat) : PB N (kas_rev p i j) := (mirror_perm _ _ _ _).trans h
theorem PB.bub {N : Nat} {p : Array Nat} (h : PB N p) (i j : Nat) : PB N (bubble p i j) := (bubble_perm _ _ _).trans h

section
variable {O : KeyOrd} {key : Nat → O.α} {N : Nat} {p : Array Nat}
theorem KP_rev {i j : Nat} (hj : j ≤ p.size) (k : Nat) : KP key (kas_rev p i j) k = if i ≤ k ∧ k < j then KP key p (i + j - 1 - k) else KP key p k := by
  have e := getElem?_mirror_all (xs := p) (i := i) hj k
  unfold KP kas_rev
  rw [e]
  by_cases h : i ≤ k ∧ k < j
  · rw [if_pos h, if_pos h]
  · rw [if_neg h, if_neg h]
theorem KP_bub {src d : Nat} (hs : src < p.size) (hd : d ≤ src) (k : Nat) :
    KP key (bubble p src d) k = if k = src - d then KP key p src else if src - d < k ∧ k ≤ src then KP key p (k - 1) else KP key p k := by
  have e := getElem?_bubble hs d hd k
  unfold KP
  rw [e]
  by_cases h : k = src - d
  · rw [if_pos h, if_pos h]
  · rw [if_neg h, if_neg h]
    by_cases h2 : src - d < k ∧ k ≤ src
    · rw [if_pos h2, if_pos h2]
    · rw [if_neg h2, if_neg h2]
/-- a stretch of alike keys turned about stays -/
theorem KP_rev_alike {i j : Nat} (hj : j ≤ p.size) (he : ∀ k, i ≤ k → k < j → KP key p k = KP key p (j - 1)) (k : Nat) : KP key (kas_rev p i j) k = KP key p k := by
  rw [KP_rev hj]
  by_cases h : i ≤ k ∧ k < j
  · rw [if_pos h, he _ (by omega) (by omega), he k h.1 h.2]
  · rw [if_neg h]
theorem lt_true {i j : Nat} (h : ltK key (p.getD i 0) (p.getD j 0) = true) : O.klt (KP key p i) (KP key p j) := by
  rw [getD_eq, getD_eq] at h
  exact h
theorem lt_false {i j : Nat} (h : ltK key (p.getD i 0) (p.getD j 0) = false) : O.kle (KP key p j) (KP key p i) := by
  rw [getD_eq, getD_eq] at h
  exact h
theorem Up.grow {n : Nat} (h : Up key p n) (h1 : 1 ≤ n) (hn : O.kle (KP key p (n - 1)) (KP key p n)) : Up key p (n + 1) := fun i j hij hj => by
  by_cases e : j < n
  · exact h i j hij e
  · obtain rfl : j = n := by omega
    by_cases e2 : i = j
    · subst e2; exact KeyOrd.kle_refl _
    · exact KeyOrd.kle_trans (h i (j - 1) (by omega) (by omega)) hn
theorem Down.grow {n : Nat} (h : Down key p n) (h1 : 1 ≤ n) (hn : O.kle (KP key p n) (KP key p (n - 1))) : Down key p (n + 1) := fun i j hij hj => by
  by_cases e : j < n
  · exact h i j hij e
  · obtain rfl : j = n := by omega
    by_cases e2 : i = j
    · subst e2; exact KeyOrd.kle_refl _
    · exact KeyOrd.kle_trans hn (h i (j - 1) (by omega) (by omega))

theorem place_wp {k : Nat} {Q : Nat → Prop} (hp : PB N p) (hk : k < N) (hu : Up key p k) : ∀ (f l r : Nat), l ≤ r → r ≤ k → r - l ≤ f → (∀ i, i < l → O.kle (KP key p i) (KP key p k)) → (∀ i, r ≤ i → i < k → O.klt (KP key p k) (KP key p i)) →
    (∀ l, l ≤ k → (∀ i, i < l → O.kle (KP key p i) (KP key p k)) → (∀ i, l ≤ i → i < k → O.klt (KP key p k) (KP key p i)) → Q l) → Wp N (ltK key) (kas_place p k f l r) Q
  | 0, l, r, a, b, c, lo, hi, h => h l (by omega) lo (fun i x y => hi i (by omega) y)
  | f + 1, l, r, a, b, c, lo, hi, h => by
    unfold kas_place
    by_cases e : l ≥ r
    · rw [if_pos e]
      exact h l (by omega) lo (fun i x y => hi i (by omega) y)
    · rw [if_neg e]
      refine ⟨hp.below hk, hp.below (by omega), ?_⟩
      cases d : ltK key (p.getD k 0) (p.getD ((l + r) / 2) 0) with
      | true => exact place_wp hp hk hu f l ((l + r) / 2) (by omega) (by omega) (by omega) lo (fun i x y => KeyOrd.klt_of_klt_of_kle (lt_true d) (hu _ _ x y)) h
      | false => exact place_wp hp hk hu f ((l + r) / 2 + 1) r (by omega) b (by omega) (fun i x => KeyOrd.kle_trans (hu i ((l + r) / 2) (by omega) (by omega)) (lt_false d)) hi h
end
end Sx

/-! ### lists of tuples of ints: the order, the comparison, list.sort -/
namespace Sx
open PySem PySem.W PyProof.Rows

theorem lex_irr : ∀ a : List Int, HT.lexLt a a = false
  | [] => rfl
  | x :: xs => by rw [HT.lexLt_cons, if_pos rfl]; exact lex_irr xs
theorem lex_trans : ∀ a b c : List Int, HT.lexLt a b = true → HT.lexLt b c = true → HT.lexLt a c = true
  | [], _, [], h1, h2 => by
    rename_i b
    cases b with
    | nil => exact h1
    | cons y ys => rw [HT.lexLt_cons_nil] at h2; cases h2
  | [], _, _ :: _, _, _ => rfl
  | x :: xs, [], _, h1, _ => by rw [HT.lexLt_cons_nil] at h1; cases h1
  | x :: xs, y :: ys, [], _, h2 => by rw [HT.lexLt_cons_nil] at h2; cases h2
  | x :: xs, y :: ys, z :: zs, h1, h2 => by
    rw [HT.lexLt_cons] at h1 h2 ⊢
    by_cases e1 : x = y
    · subst e1
      rw [if_pos rfl] at h1
      by_cases e2 : x = z
      · rw [if_pos e2] at h2 ⊢
        exact lex_trans xs ys zs h1 h2
      · rw [if_neg e2] at h2 ⊢
        exact h2
    · rw [if_neg e1] at h1
      have l1 : x < y := of_decide_eq_true h1
      by_cases e2 : y = z
      · subst e2
        rw [if_neg e1]
        exact h1
      · rw [if_neg e2] at h2
        have l2 : y < z := of_decide_eq_true h2
        rw [if_neg (by omega)]
        exact decide_eq_true (by omega)
theorem lex_tot : ∀ a b : List Int, HT.lexLt a b = false → HT.lexLt b a = false → a = b
  | [], [], _, _ => rfl
  | [], _ :: _, h, _ => by rw [HT.lexLt_nil_cons] at h; cases h
  | _ :: _, [], _, h => by rw [HT.lexLt_nil_cons] at h; cases h
  | x :: xs, y :: ys, h1, h2 => by
    rw [HT.lexLt_cons] at h1 h2
    by_cases e : x = y
    · subst e
      rw [if_pos rfl] at h1 h2
      rw [lex_tot xs ys h1 h2]
    · rw [if_neg e] at h1
      rw [if_neg (Ne.symm e)] at h2
      have l1 : ¬ x < y := of_decide_eq_false h1
      have l2 : ¬ y < x := of_decide_eq_false h2
      omega
theorem lex_neg (a b c : List Int) (h : HT.lexLt a c = true) : HT.lexLt a b = true ∨ HT.lexLt b c = true := by
  cases e1 : HT.lexLt a b with
  | true => exact .inl rfl
  | false =>
    refine .inr ?_
    cases e2 : HT.lexLt b a with
    | true => exact lex_trans b a c e2 h
    | false =>
      have e := lex_tot a b e1 e2
      subst e
      exact h
/-- the order of tuples of ints -/
def lexO : KeyOrd where
  α := List Int
  blt := HT.lexLt
  irrefl := lex_irr
  trans := lex_trans
  negTrans := lex_neg
  total := lex_tot


section
variable {prog : Program} {w : World} {A : Around} {E : Value → Shared → Prop} {s : Shared}

/-- a tuple of ints stands at a -/
def TupI (h : Heap) (a : Addr) (t : List Int) : Prop := ∃ o its n, h.get? a = some o ∧ o.cls = .type "tuple" ∧ o.data = .seq its n ∧ IntsAre its.toList t

/-- what list.sort leaves: the addresses of the tuples in the order of the tuples -/
structure Sorted (rs : List Addr) (ts : List (List Int)) (rs' : List Addr) (ts' : List (List Int)) : Prop where
  perm : (rs'.zip ts').Perm (rs.zip ts)
  len : rs'.length = ts'.length
  ord : ts'.Pairwise fun a b => HT.lexLt b a = false
end
end Sx

namespace Sx
open PySem PySem.W PyProof.Rows
section
variable {prog : Program} {w : World} {A : Around} {E : Value → Shared → Prop} {s : Shared}
theorem pair_at {α β : Type} {F : α → β → Prop} : ∀ {l₁ : List α} {l₂ : List β} {i : Nat} {a : α}, Paired F l₁ l₂ → l₁[i]? = some a → ∃ b, l₂[i]? = some b ∧ F a b
  | _, _, _, _, .nil, e => by simp at e
  | _, _, 0, _, .cons h _, e => by simp at e; subst e; exact ⟨_, rfl, h⟩
  | _, _, i + 1, a, .cons _ t, e => by
    obtain ⟨b, h1, h2⟩ := pair_at (i := i) (a := a) t (by simpa using e)
    exact ⟨b, by simpa using h1, h2⟩
end
end Sx

/-! ### the keys of a dict, whatever they are, one after another -/
namespace Sx
open PySem PySem.W PySem.Calls PyProof.Rows
/-- a plain dict with these entries stands at d -/
def DictE (h : Heap) (d : Addr) (es : Array DictEntry) (ep : Nat) : Prop := ∃ o, h.get? d = some o ∧ o.ExactDict ∧ o.data = .dict es ep
section
variable {prog : Program} {w : World} {A : Around} {E : Value → Shared → Prop} {s : Shared} {d it : Addr} {es : Array DictEntry} {ep i : Nat}
end
end Sx

/-! ### sorted(..) of a list of tuples of ints, of a dict whose keys are such -/
namespace L2
open PySem PySem.Spec PyProof.Rows
/-- tuples of ints, none empty -/
abbrev TupsH (H : Hp) (rs : List Addr) (ts : List (List Int)) : Prop := Paired (fun r t => H r = some (.tup (t.map V.int)) ∧ t ≠ []) rs ts
section
variable {X : Cx} {pins : List (Addr × Obj)} {σ : St} {H : Hp} {s : Shared}
theorem refs_of : ∀ {rs : List Addr} {us : List Value}, Vals (rs.map V.ref) us → us = rs.map Value.ref
  | [], _, h => by rw [List.map_nil] at h; cases h; rfl
  | r :: rs, _, h => by
    rw [List.map_cons] at h
    cases h with
    | cons h1 h2 => rw [refs_of h2, List.map_cons]; cases h1; rfl
end
section
variable {X : Cx}
end
end L2

/-! ### the mathematics: a list of ties looked through, sorted lists -/
namespace Mt
def lo (a b : Int) : Int := if b < a then b else a
def hi (a b : Int) : Int := if b > a then b else a
abbrev Tri := Int × Int × Int
/-- an end is no point, or both are alike -/
def bad (m a b : Int) : Prop := a < 0 ∨ m ≤ a ∨ b < 0 ∨ m ≤ b ∨ a = b
instance (m a b : Int) : Decidable (bad m a b) := by unfold bad; infer_instance
def tri (t : Tri) : List Int := [t.1, t.2.1, t.2.2]
/-- the tie's ends, the lesser first, and its weight -/
def key (t : Tri) : List Int := [lo t.1 t.2.1, hi t.1 t.2.1]
def row (t : Tri) : List Int := key t ++ [t.2.2]
inductive Res | bad | twice | good
  deriving DecidableEq
/-- what becomes of a list of ties: seen are the keys ahead -/
def scan (m : Int) : List Tri → List (List Int) → Res
  | [], _ => .good
  | t :: r, seen => if bad m t.1 t.2.1 then .bad else if seen.any (fun k => decide (k = key t)) = true then .twice else scan m r (seen ++ [key t])
theorem scan_cons (m : Int) (t : Tri) (r : List Tri) (seen : List (List Int)) : scan m (t :: r) seen = if bad m t.1 t.2.1 then .bad else if seen.any (fun k => decide (k = key t)) = true then .twice else scan m r (seen ++ [key t]) := rfl

end Mt

/-! ### list comprehensions of one clause -/
namespace L2
open PySem PySem.Spec PyProof.Rows

/-- the block of a comprehension: its own names, then the captured ones -/
def Xc (X : Cx) (pins : List (Addr × Obj)) (scope : Scope) (cl : List (Str × Addr)) (C : Addr) (N : List Str) (s : Shared) (H : Hp) (fp : List Addr) : Cx where
  prog := X.prog
  w := X.w
  K := X.K
  mg := X.mg
  base := X.base
  A := X.A
  N := N
  s₀ := s
  H₀ := H
  env := compEnvC scope cl C X.env
  outer := X.stack
  stack := X.stack
  ex := fp
  fn := fun x => (cl.lookup x).isNone
  calm := X.calm
  pn := X.pn ++ pins
  xe := fun _ _ => False

/-- the values at the block's entry: own names none, then those of the slots js -/
def σC (own : Nat) (js : List Nat) (σ : St) : St := List.replicate own none ++ js.map fun j => (σ[j]?).getD none

/-- what the reader must know of the text: the closure's cells, the captured names -/
structure Caps (X : Cx) (scope : Scope) (cl : List (Str × Addr)) (own caps : List Str) (js : List Nat) : Prop where
  clos : closureFor scope X.env = pure cl
  sub : ∀ x c, cl.lookup x = some c → X.env.cells.lookup x = some c
  kind : scope.kind = .function
  nocell : ∀ y ∈ scope.names, y.2 ≠ .cell
  names : ∀ y ∈ scope.names, y.2 = .local → scope.names.lookup y.1 = some .local
  has : ∀ x, ((relabel scope X.env).names.lookup x = some .cell ∨ (relabel scope X.env).names.lookup x = some .free) → ∃ c, cl.lookup x = some c
  capl : caps.length = js.length
  cap : ∀ (i : Nat) (x : Str), caps[i]? = some x → ∃ j : Nat, js[i]? = some j ∧ X.N[j]? = some x ∧ X.env.scope.names.lookup x = some .cell ∧ (cl.lookup x).isSome = true ∧ (relabel scope X.env).names.lookup x = some .cell

section
variable {X : Cx} {pins : List (Addr × Obj)} {σ : St} {H : Hp} {s : Shared} {scope : Scope} {cl : List (Str × Addr)} {own caps : List Str} {js : List Nat}

theorem Inv.offC {C : Addr} {h' : Heap} {t' : Nat} (I : Inv X pins σ H s) (f : FpOk X pins H C) (hs : Heap.SameBut C s.heap h') : Inv X pins σ H { s with heap := h', toks := t' } := by
  obtain ⟨f0, f1, f2, f3, f4, f5⟩ := f
  exact I.turned (fun b o hb e => (hs.2 b hb).trans e) f0 f1 f3 f4 f5

/-- the block's context is sound -/
theorem xc_ok {fp : List Addr} {C : Addr} {H1 : Hp} (I : Inv X pins σ H1 s) (K : Caps X scope cl own caps js) (hC : s.heap.objs.size ≤ C) (hf : ∀ b ∈ fp, FpOk X pins H1 b) (ho : ∀ b ∈ fp, ∃ o, s.heap.get? b = some o) :
    (Xc X pins scope cl C (own ++ caps) s H1 fp).Ok := by
  refine ⟨I.ok.mod, K.kind, I.ok.glob, I.ok.blt, hC, fun x y c h1 h2 => I.ok.inj x y c (K.sub x c h1) (K.sub y c h2), fun x hx => K.has x hx, fun x c h1 h2 => ?_, I.ok.hd, I.ok.frames, .inl rfl, fun b hb => ?_, I.bs, Nat.le_trans I.ok.bsz I.sz, fun b o e hb => ?_, fun b hb hm => ?_, I.stack, I.stkFree⟩
  · have h1 : (cl.lookup x).isNone = true := h1
    have h2 : cl.lookup x = some c := h2
    rw [h2] at h1; cases h1
  · obtain ⟨o, e⟩ := ho b hb
    refine ⟨fun z => ?_, fun x c h z => (hf b hb).2.2.2.2.1 x c (K.sub x c h) z⟩
    have : b < C := Nat.lt_of_lt_of_le (Heap.lt_size e) hC
    rw [z] at this
    exact absurd this (Nat.lt_irrefl _)
  · rcases (hf b hb).2.2.2.1 with z | z
    · exact I.ok.noex b o e z
    · exact absurd (Nat.lt_of_lt_of_le (Heap.lt_size e) (Nat.le_trans I.ok.bsz z)) (Nat.lt_irrefl _)
  · rcases List.mem_cons.mp (I.stkSub b hm) with z | z
    · exact (hf b hb).2.1 z
    · exact (hf b hb).2.2.1 z
/-- the block's state at its entry -/
theorem xc_inv {fp : List Addr} {D C : Addr} {H1 : Hp} {s4 : Shared} {mC : Str → Option Value} (I : Inv X pins σ H1 s) (K : Caps X scope cl own caps js) (hC : s.heap.objs.size ≤ C) (hD : s.heap.objs.size ≤ D) (hDC : D ≠ C)
    (hf : ∀ b ∈ fp, FpOk X pins H1 b) (ho : ∀ b ∈ fp, ∃ o, s.heap.get? b = some o) (h4 : ∃ h' tk, s4 = { s with heap := h', toks := tk }) (k4 : ∀ b o, s.heap.get? b = some o → s4.heap.get? b = some o) (hn : s4.heap.Ns C mC)
    (hl : s4.heap.get? D = some { cls := .type "list", data := .seq #[] 0 }) : Inv (Xc X pins scope cl C (own ++ caps) s H1 fp) [] (σC own.length js σ) (upd H1 D (.lst [])) s4 := by
  obtain ⟨h', tk, rfl⟩ := h4
  have hfr : H1 D = none := I.hok.fresh hD
  have hlen : (σC own.length js σ).length = (own ++ caps).length := by
    unfold σC
    rw [List.length_append, List.length_append, List.length_replicate, List.length_map, K.capl]
  have celK : ∀ c v, s.heap.IsCell c v → h'.IsCell c v := fun c v ⟨o, e, d⟩ => ⟨o, k4 c o e, d⟩
  have cold : ∀ x c, cl.lookup x = some c → c < s.heap.objs.size := fun x c e => by
    obtain ⟨v, z⟩ := I.cell x c (K.sub x c e)
    exact z.lt
  refine ⟨xc_ok I K hC hf ho, rfl, I.bare, Un.laid k4 hD hfr, ⟨mC, hn, fun i x v e1 e2 e3 => ?_⟩, fun x c e => ?_, ?_, fun x c e => ?_, fun p hp => ?_, I.hok.laid k4 hD ?_, hlen⟩
  · have hi : own.length ≤ i := by
      by_cases hi : i < own.length
      · exfalso
        unfold σC at e2
        rw [List.getElem?_append_left (by rw [List.length_replicate]; exact hi), List.getElem?_replicate, if_pos hi] at e2
        cases e2
      · omega
    obtain ⟨k, rfl⟩ : ∃ k, i = own.length + k := ⟨i - own.length, by omega⟩
    have e1 : (own ++ caps)[own.length + k]? = some x := e1
    rw [List.getElem?_append_right (by omega), Nat.add_sub_cancel_left] at e1
    obtain ⟨j, j1, j2, j3, j4, j5⟩ := K.cap k x e1
    unfold σC at e2
    rw [List.getElem?_append_right (by rw [List.length_replicate]; omega), List.length_replicate, Nat.add_sub_cancel_left, List.getElem?_map, j1] at e2
    have e2 : (σ[j]?).getD none = some v := Option.some.inj e2
    have e4 : σ[j]? = some (some v) := by
      cases q : σ[j]? with
      | none => rw [q] at e2; cases e2
      | some y => rw [q] at e2; exact congrArg some e2
    obtain ⟨m, _, hl'⟩ := I.loc
    obtain ⟨u, ru, lk⟩ := hl' j x v j2 e4 (.inr (.inl j3))
    refine ⟨u, ru, ?_⟩
    rcases lk with ⟨hk, _⟩ | ⟨_, c, hc, hcell⟩
    · have hk : X.env.scope.names.lookup x = some .local := hk
      rw [j3] at hk; cases hk
    · obtain ⟨c', hc'⟩ := Option.isSome_iff_exists.mp j4
      have := K.sub x c' hc'
      rw [hc] at this; cases this
      exact .inr ⟨.inl j5, c, hc', celK _ _ hcell⟩
  · obtain ⟨v, z⟩ := I.cell x c (K.sub x c e)
    exact ⟨v, celK _ _ z⟩
  · show upd H1 D (.lst []) C = none
    rw [upd_ne (Ne.symm hDC)]
    exact I.hok.fresh hC
  · rw [upd_ne (Nat.ne_of_lt (Nat.lt_of_lt_of_le (cold x c e) hD))]
    exact I.freeC x c (K.sub x c e)
  · have hp : p ∈ X.pn ++ pins := by
      have : p ∈ (X.pn ++ pins) ++ [] := hp
      simpa using this
    obtain ⟨e, n, ne, nf, d⟩ := I.pin p hp
    have hlt := Heap.lt_size e
    refine ⟨k4 _ _ e, by rw [upd_ne (Nat.ne_of_lt (Nat.lt_of_lt_of_le hlt hD))]; exact n, Nat.ne_of_lt (Nat.lt_of_lt_of_le hlt hC), fun hm => ?_, d⟩
    rcases List.mem_cons.mp (I.stkSub _ hm) with z | z
    · exact ne z
    · exact nf z
  · exact ⟨Nat.zero_le _, [], 0, .nil, hl⟩
/-- behind the block -/
theorem xc_back {fp : List Addr} {C : Addr} {N : List Str} {H1 H' : Hp} {σ' : St} {pl : List (Addr × Obj)} {s' : Shared} (I : Inv X pins σ H1 s) (hf : ∀ b ∈ fp, FpOk X pins H1 b) (J : Inv (Xc X pins scope cl C N s H1 fp) pl σ' H' s') : Inv X pins σ H' s' :=
  I.call' J.os J.base J.hok J.bare fun b hb => ⟨(hf b hb).2.2.2.1, (hf b hb).2.1, (hf b hb).2.2.2.2.1, (hf b hb).2.2.2.2.2⟩
end

/-- a turn: the target, the tests, the element; W is the invariant: turn, measure, items so far, names, heap -/
def tTurns (J : It) (g : TG) (tt : TT) (te : TE) (σ0 : St) (D : Addr) (Qd : Hp → Prop) (H1 : Hp) : Prop :=
  ∃ W : Nat → Nat → List V → St → Hp → Prop, (∃ m, W 0 m [] σ0 (upd H1 D (.lst []))) ∧ ∀ i m ys σ1 H2, W i m ys σ1 H2 → H2 D = some (.lst ys) ∧
    ((J.stop i H2 ∧ Qd H2) ∨ (J.go i H2 ∧ ys.length < sizeLine ∧ ∀ x H3, J.yld i H2 x H3 → g x σ1 H3 fun σ2 H4 => tt σ2 H4 fun c H5 =>
      if c = true then te σ2 H5 fun y H6 => H6 D = some (.lst ys) ∧ ∃ m', m' < m ∧ W (i + 1) m' (ys ++ [y]) σ2 (upd H6 D (.lst (ys ++ [y]))) else ∃ m', m' < m ∧ W (i + 1) m' ys σ2 H5))
/-- the tests of a clause -/
def PTs (X : Cx) (ifs : List Expr) (t : TT) : Prop :=
  ∀ (pins : List (Addr × Obj)) (s : Shared) (σ : St) (H : Hp) (Q : Bool → Hp → Prop), Inv X pins σ H s → t σ H Q →
    wpAny (model X.prog X.w) X.A (forIn ifs true fun c r => if r = true then do let ok ← isTrue c X.env (eval c X.env); pure (ForInStep.yield ok) else pure (ForInStep.yield r)) (TP X pins σ Q) X.xe s
def tYes : TT := fun _ H Q => Q true H
theorem pts_nil {X : Cx} : PTs X [] tYes := fun _ _ _ H _ I h => wpAny_tests_nil ⟨H, I, h⟩
theorem pts_one {X : Cx} {c : Expr} {t : TT} (h : PT X c t) : PTs X [c] t := fun pins s σ H Q I hw => wpAny_tests_one (h pins s σ H Q I hw)

section
variable {X : Cx} {pins : List (Addr × Obj)} {σ : St} {H : Hp} {s : Shared} {scope : Scope} {cl : List (Str × Addr)} {own caps : List Str} {js : List Nat}
variable {tg iter elt : Expr} {ifs : List Expr} {pos : Pos} {g : TG} {tt : TT} {te : TE}
/-- the turns of a comprehension -/
theorem comp_loop {J : It} {fp : List Addr} {it D C : Addr} {tn : Nat → Heap → Prop} {H1 : Hp} {σ0 : St} {Qd : Hp → Prop} {RR : Result → Shared → Prop} {s4 : Shared}
    (hc : X.calm = true) (T : Turn X.prog X.w X.K tg J fp it tn)
    (hg : PG (Xc X pins scope cl C (own ++ caps) s H1 fp) tg g) (ht : PTs (Xc X pins scope cl C (own ++ caps) s H1 fp) ifs tt) (he : PE (Xc X pins scope cl C (own ++ caps) s H1 fp) elt te)
    (hf : ∀ b ∈ fp, FpOk X pins H1 b)
    (J0 : Inv (Xc X pins scope cl C (own ++ caps) s H1 fp) [] σ0 (upd H1 D (.lst [])) s4) (st0 : tn 0 s4.heap) (hfD : ∀ b ∈ fp, b ≠ D)
    (turns : tTurns J g tt te σ0 D Qd H1)
    (fin : ∀ σ' H' s', Inv (Xc X pins scope cl C (own ++ caps) s H1 fp) [] σ' H' s' → Qd H' → RR (.ok .next) s') :
    codeAny (model X.prog X.w) X.A (.compLoop (.ListComp elt [⟨tg, iter, ifs, 0⟩] scope pos) 0 (.ref it) (.ref D) (compEnvC scope cl C X.env)) RR s4 := by
  obtain ⟨W, ⟨m0, w0⟩, turn⟩ := turns
  have stat : ∀ {H' : Hp}, (∀ b ∈ fp, H' b = none) → ∀ b ∈ fp, FpOk (Xc X pins scope cl C (own ++ caps) s H1 fp) [] H' b := fun {H'} hn b hb => by
    refine ⟨hn b hb, (J0.ok.exf b hb).1, J0.ok.exfs b hb, .inl hb, fun x c e => (J0.ok.exf b hb).2 x c e, fun p hp => ?_⟩
    have hp : p ∈ X.pn ++ pins := by
      have : p ∈ (X.pn ++ pins) ++ [] := hp
      simpa using this
    exact (hf b hb).2.2.2.2.2 p hp
  refine codeAny_loop rfl (fun n s' => ∃ i ys σ' H', Inv (Xc X pins scope cl C (own ++ caps) s H1 fp) [] σ' H' s' ∧ tn i s'.heap ∧ (∀ b ∈ fp, H' b = none) ∧ W i n ys σ' H') (fun n s' hI => ?_) m0
    ⟨0, [], _, _, J0, st0, fun b hb => by rw [upd_ne (hfD b hb)]; exact (hf b hb).1, w0⟩
  obtain ⟨i, ys, σ2, H2, I2, st, fr, w2⟩ := hI
  show wpAny _ X.A ((compTurn (.ListComp elt [⟨tg, iter, ifs, 0⟩] scope pos) 0 (.ref it) (.ref D) (compEnvC scope cl C X.env)).onRaise (fun x => do noteFrame x (compEnvC scope cl C X.env); theTreesLotGoes x)) _ _ s'
  refine wpAny_noted (wpAny_noRaise ?_)
  rw [compTurn_list]
  obtain ⟨hD, alt⟩ := turn i n ys σ2 H2 w2
  rcases alt with ⟨stop, qd⟩ | ⟨go, hz, step⟩
  · refine wpAny_bind (wpAny_standAt (wpAny_bind (thn (T.done (Xc X pins scope cl C (own ++ caps) s H1 fp) rfl rfl rfl hc i [] s' σ2 H2 (fun _ _ => False) I2 (stat fr) st stop) fun r s5 ⟨hr, I5⟩ => ?_)))
    subst hr
    exact wpAny_pure (fin _ _ _ I5 qd)
  · refine wpAny_bind (wpAny_standAt (wpAny_bind (thn (T.item (Xc X pins scope cl C (own ++ caps) s H1 fp) rfl rfl rfl hc i [] s' σ2 H2 (fun _ _ => False) I2 (stat fr) st go) fun r s5 ⟨u, hr, h5⟩ => ?_)))
    subst hr
    refine wpAny_bind (thn h5 fun _ s6 ⟨x, H6, I6, r6, y6, st6, fr6⟩ => ?_)
    have I6' := I6.pinned (stat fr6) (T.obj _ _ st6)
    refine wpAny_bind (thn (hg _ s6 σ2 H6 x u _ I6' r6 (step x H6 y6)) fun _ s7 ⟨σ7, H7, I7, q7⟩ => ?_)
    refine wpAny_bind (thn (ht _ s7 σ7 H7 _ I7 q7) fun ok s8 ⟨H8, I8, q8⟩ => ?_)
    have again : ∀ {H9 : Hp} {ys' : List V} {m : Nat} {s9 : Shared}, Inv (Xc X pins scope cl C (own ++ caps) s H1 fp) ([] ++ pinsAt fp s6.heap) σ7 H9 s9 → m < n → W (i + 1) m ys' σ7 H9 →
        ∃ m, m < n ∧ ∃ i ys σ' H', Inv (Xc X pins scope cl C (own ++ caps) s H1 fp) [] σ' H' s9 ∧ tn i s9.heap ∧ (∀ b ∈ fp, H' b = none) ∧ W i m ys σ' H' := fun {H9 ys' m s9} I9 hm w9 => by
      refine ⟨m, hm, i + 1, ys', σ7, H9, I9.unpinned, T.keep _ _ _ st6 fun b hb o e => (I9.pin (b, o) (List.mem_append_right _ (List.mem_append_right _ (mem_pinsAt hb e)))).1, fun b hb => ?_, w9⟩
      obtain ⟨o, e, _⟩ := T.obj _ _ st6 b hb
      exact (I9.pin (b, o) (List.mem_append_right _ (List.mem_append_right _ (mem_pinsAt hb e)))).2.1
    cases ok with
    | false =>
      rw [if_neg Bool.false_ne_true] at q8
      obtain ⟨m, hm, w8⟩ := q8
      exact wpAny_pure ⟨rfl, again I8 hm w8⟩
    | true =>
      rw [if_pos rfl] at q8
      refine wpAny_bind (wpAny_bind (thn (he _ s8 σ7 H8 _ I8 q8) fun y s9 ⟨yv, H9, I9, r9, hD9, m, hm, w9⟩ => ?_))
      refine wpAny_bind (thn (mt_append _ s9 σ7 H9 (.ref D) [yv] (.ref D) [y] (fun _ H10 => H10 = upd H9 D (.lst (ys ++ [yv]))) I9 rfl (.cons r9 .nil) ⟨D, ys, yv, rfl, rfl, hD9, hz, rfl⟩) fun _ s10 ⟨_, H10, I10, _, e10⟩ => ?_)
      subst e10
      exact wpAny_pure (wpAny_pure ⟨rfl, again I10 hm w9⟩)
/-- the block: the new list, the block's names, the turns -/
theorem comp_block {J : It} {fp : List Addr} {it : Addr} {tn : Nat → Heap → Prop} {H1 : Hp} {Qd : Addr → Hp → Prop} {RR : Value → Addr → Result → Shared → Prop} {E : Value → Shared → Prop}
    (hc : X.calm = true) (I : Inv X pins σ H1 s) (K : Caps X scope cl own caps js) (T : Turn X.prog X.w X.K tg J fp it tn) (st0 : tn 0 s.heap) (hf : ∀ b ∈ fp, FpOk X pins H1 b)
    (hg : ∀ C, PG (Xc X pins scope cl C (own ++ caps) s H1 fp) tg g) (ht : ∀ C, PTs (Xc X pins scope cl C (own ++ caps) s H1 fp) ifs tt) (he : ∀ C, PE (Xc X pins scope cl C (own ++ caps) s H1 fp) elt te)
    (turns : ∀ D, H1 D = none → tTurns J g tt te (σC own.length js σ) D (Qd D) H1)
    (fin : ∀ D C H' s', Inv X pins σ H' s' → FpOk X pins H' C → (∃ m, s'.heap.Ns C m) → Qd D H' → RR (.ref D) C (.ok .next) s') :
    wpAny (model X.prog X.w) X.A (newList []) (fun acc s₃ => wpAny (model X.prog X.w) X.A (newFunctionEnv scope X.env.globals cl [] X.env.qual none .none (some X.env)) (fun cenv s₄ =>
      codeAny (model X.prog X.w) X.A (.compStart (.ListComp elt [⟨tg, iter, ifs, 0⟩] scope pos) 0 (.ref it) acc { cenv with scope := relabel scope X.env }) (RR acc cenv.locals) s₄) E s₃) E s := by
  have hold : ∀ b ∈ fp, ∃ o, s.heap.get? b = some o := fun b hb => let ⟨o, e, _⟩ := T.obj 0 _ st0 b hb; ⟨o, e⟩
  refine wpAny_newObj_type (wpAny_newFunctionEnv K.nocell (by intro y hy; simp at hy) (fun h₁ hns₁ hsb₁ => ?_) K.kind)
  dsimp only at hns₁ hsb₁ ⊢
  generalize hH2 : s.heap.push { cls := .type "list", dict := none, data := .seq ([] : List Value).toArray } = H2 at hns₁ hsb₁ ⊢
  have hsz : H2.objs.size = s.heap.objs.size + 1 := by rw [← hH2, Heap.size_push]
  have k4 : ∀ b o, s.heap.get? b = some o → h₁.get? b = some o := fun b o e => by
    have hlt := Heap.lt_size e
    refine (hsb₁.2 b (Nat.ne_of_lt (hsz ▸ Nat.lt_succ_of_lt hlt))).trans (Heap.get?_push_of_some _ ?_)
    rw [← hH2]
    exact Heap.get?_push_of_some _ e
  have hlist : h₁.get? s.heap.objs.size = some { cls := .type "list", data := .seq #[] 0 } := by
    refine (hsb₁.2 _ (Nat.ne_of_lt (hsz ▸ Nat.lt_succ_self _))).trans (Heap.get?_push_of_some _ ?_)
    rw [← hH2]
    exact Heap.get?_push_size _ rfl
  have hfr : H1 s.heap.objs.size = none := I.hok.fresh (Nat.le_refl _)
  have J0 := xc_inv (C := H2.objs.size) (D := s.heap.objs.size) (s4 := { s with heap := h₁, toks := s.toks + ([] : List (Str × Value)).length }) I K (hsz ▸ Nat.le_succ _) (Nat.le_refl _) (Nat.ne_of_lt (hsz ▸ Nat.lt_succ_self _)) hf hold ⟨_, _, rfl⟩ k4 hns₁ hlist
  have hfD : ∀ b ∈ fp, b ≠ s.heap.objs.size := fun b hb z => by
    obtain ⟨o, e⟩ := hold b hb
    have hlt := Heap.lt_size e
    rw [z] at hlt
    exact absurd hlt (Nat.lt_irrefl _)
  have st1 : tn 0 h₁ := T.keep 0 _ _ st0 fun b hb o e => k4 b o e
  have loop : ∀ s₃ : Shared, s₃ = { s with heap := h₁, toks := s.toks + ([] : List (Str × Value)).length } →
      codeAny (model X.prog X.w) X.A (.compLoop (.ListComp elt [⟨tg, iter, ifs, 0⟩] scope pos) 0 (.ref it) (.ref s.heap.objs.size) (compEnvC scope cl H2.objs.size X.env)) (RR (.ref s.heap.objs.size) H2.objs.size) s₃ := by
    rintro s₃ rfl
    refine comp_loop hc T (hg _) (ht _) (he _) hf J0 st1 hfD (turns _ hfr) fun σ' H' s' J' qd => ?_
    have hC : H' H2.objs.size = none := J'.free
    obtain ⟨m, hn, _⟩ := J'.loc
    exact fin _ _ _ _ (xc_back I hf J') (I.fpOk (by omega) hC) ⟨m, hn⟩ qd
  exact codeAny_compStart_list (loop _ rfl) (T.self _ 0 _ _ _ st1 (loop _ rfl))

/-- [elt for tg in iter if ..] -/
def tComp (wi : TI) (g : TG) (tt : TT) (te : TE) (own : Nat) (js : List Nat) : TE := fun σ H Q => wi σ H fun J H1 => ∀ D, H1 D = none → tTurns J g tt te (σC own js σ) D (fun H' => Q (.ref D) H') H1
theorem pe_comp {wi : TI} (hc : X.calm = true) (K : Caps X scope cl own caps js) (hi : PI X tg iter wi)
    (hg : ∀ pins C s H1 fp, PG (Xc X pins scope cl C (own ++ caps) s H1 fp) tg g) (ht : ∀ pins C s H1 fp, PTs (Xc X pins scope cl C (own ++ caps) s H1 fp) ifs tt) (he : ∀ pins C s H1 fp, PE (Xc X pins scope cl C (own ++ caps) s H1 fp) elt te)
    (hs : ∀ x, foldedSetIterable iter X.env x = pure x := by intro _; rfl) : PE X (.ListComp elt [⟨tg, iter, ifs, 0⟩] scope pos) (tComp wi g tt te own.length js) := by
  intro pins s σ H Q I h
  rw [eval_ListComp]
  refine wpAny_comprehension_free (use := none) rfl hs K.clos K.kind K.names (thn (hi pins s σ H _ I h) fun v s1 h1 => thn h1 fun itv s2 h2 => ?_)
  obtain ⟨it, fp, tn, J, H1, e, I2, T, st, f, q⟩ := h2
  subst e
  refine comp_block (Qd := fun D H' => Q (.ref D) H') (RR := fun acc C => compPost (model X.prog X.w) X.A X.xe none (EP X pins σ Q) acc C) hc I2 K T st f (fun C => hg _ C _ _ _) (fun C => ht _ C _ _ _) (fun C => he _ C _ _ _) q ?_
  intro D C H' s' I' fC ⟨m, hn⟩ qd
  exact ⟨m, hn, fun h' hs' => ⟨.ref D, H', I'.offC (t' := s'.toks) fC hs', rfl, qd⟩⟩
/-- name = [elt for tg in iter if ..] on one line: stored ahead of the block's end -/
def tCompSet (i : Nat) (wi : TI) (g : TG) (tt : TT) (te : TE) (own : Nat) (js : List Nat) : TS := fun D σ H => wi σ H fun J H1 => ∀ d, H1 d = none → tTurns J g tt te (σC own js σ) d (fun H' => D.nx (σ.set i (some (.ref d))) H') H1
theorem ps_comp {wi : TI} {i : Nat} {y : Str} {py spos : Pos} (hc : X.calm = true) (K : Caps X scope cl own caps js) (hi : PI X tg iter wi)
    (hg : ∀ pins C s H1 fp, PG (Xc X pins scope cl C (own ++ caps) s H1 fp) tg g) (ht : ∀ pins C s H1 fp, PTs (Xc X pins scope cl C (own ++ caps) s H1 fp) ifs tt) (he : ∀ pins C s H1 fp, PE (Xc X pins scope cl C (own ++ caps) s H1 fp) elt te)
    (hN : X.N.Nodup) (hy : X.N[i]? = some y) (hyl : X.env.scope.names.lookup y = some .local)
    (hsw : swapsWith (.ListComp elt [⟨tg, iter, ifs, 0⟩] scope pos) (some (.Name y py)) spos.line X.env = pure true)
    (hs : ∀ x, foldedSetIterable iter X.env x = pure x := by intro _; rfl) : PS X (.Assign [.Name y py] (.ListComp elt [⟨tg, iter, ifs, 0⟩] scope pos) spos) (tCompSet i wi g tt te own.length js) := by
  intro pins s σ H D I h
  rw [exec_Assign_Name_used _ _ _ _ hsw]
  refine wpAny_bind (wpAny_standAt (wpAny_bind ?_))
  show wpAny _ X.A (do let _ ← comprehension (.ListComp elt [⟨tg, iter, ifs, 0⟩] scope pos) scope X.env _ (newList []) false (eval iter X.env) (some (assign (.Name y py) X.env))) _ _ s
  refine wpAny_bind (thn (wpAny_comprehension_free (use := some (assign (.Name y py) X.env)) (Q := fun _ s' => SP X pins D .next s') rfl hs K.clos K.kind K.names (thn (hi pins s σ H _ I h) fun v s1 h1 => thn h1 fun itv s2 h2 => ?_)) fun _ s' hq => wpAny_pure (wpAny_pure hq))
  obtain ⟨it, fp, tn, J, H1, e, I2, T, st, f, q⟩ := h2
  subst e
  refine comp_block (Qd := fun d H' => D.nx (σ.set i (some (.ref d))) H') (RR := fun acc C => compPost (model X.prog X.w) X.A X.xe (some (assign (.Name y py) X.env)) (fun _ s' => SP X pins D .next s') acc C) hc I2 K T st f (fun C => hg _ C _ _ _) (fun C => ht _ C _ _ _) (fun C => he _ C _ _ _) q ?_
  intro d C H' s' I' fC ⟨m, hn⟩ qd
  show wpAny _ X.A (assign (.Name y py) X.env (.ref d)) _ _ _
  refine wpAny_assign_Name (store_ok2 I' hN hy (.inl hyl) (show RelV (.ref d) (.ref d) from rfl) (fun s3 I3 ⟨a, sb, ha⟩ => ?_) (.inr hyl))
  have hCa : C ≠ a := by
    rcases ha with z | z
    · rw [z]; exact fC.2.1
    · exact fun z2 => fC.2.2.2.2.1 y a z z2.symm
  exact ⟨m, hn.sameBut sb hCa, fun h' hs' => ⟨_, H', I3.offC (t' := s3.toks) fC hs', qd⟩⟩
end
end L2

/-! ### == and in, where the items are tuples of ints -/
namespace Sx
open PySem PySem.W PyProof.Rows
theorem ints_fun : ∀ {vs : List Value} {a b : List Int}, IntsAre vs a → IntsAre vs b → a = b
  | _, _, _, .nil, .nil => rfl
  | _, _, _, .cons n t h, .cons _ _ h' => by rw [ints_fun h h']
theorem ints_at : ∀ {vs : List Value} {ns : List Int} {i : Nat} {v : Value}, IntsAre vs ns → vs[i]? = some v → ∃ t, v = .int (ns.getD i 0) t
  | _, _, _, _, .nil, e => by simp at e
  | _, _, 0, _, .cons n t _, e => by simp at e; subst e; exact ⟨t, rfl⟩
  | _, _, i + 1, v, .cons n t h, e => by
    obtain ⟨t', e'⟩ := ints_at (i := i) (v := v) h (by simpa using e)
    exact ⟨t', by simpa using e'⟩
end Sx
namespace L2
open PySem PySem.Spec PyProof.Rows
theorem ints_inj : ∀ {a b : List Int}, a.map V.int = b.map V.int → a = b
  | [], [], _ => rfl
  | [], _ :: _, e => by simp at e
  | _ :: _, [], e => by simp at e
  | x :: xs, y :: ys, e => by
    rw [List.map_cons, List.map_cons] at e
    injection e with e1 e2
    injection e1 with e1
    rw [e1, ints_inj e2]
section
variable {X : Cx}
open Classical in
/-- does the tuple t stand there -/
noncomputable def isT (H : Hp) (t : List Int) : Value → Bool
  | .ref r => decide (H r = some (.tup (t.map V.int)))
  | _ => false
end
end L2

/-! ### turns of a comprehension, lists side by side -/
namespace L2
open PySem PySem.Spec PyProof.Rows
theorem yes_of {σ : St} {H : Hp} {A B : Hp → Prop} (h : A H) : tYes σ H fun c H5 => if c = true then A H5 else B H5 := by
  show if true = true then A H else B H
  rw [if_pos rfl]
  exact h
/-- the next turn of a comprehension of n turns -/
def Nxt (n i : Nat) (Pv : Nat → List V → St → Hp → Prop) (ys : List V) (σ : St) (H : Hp) : Prop := ∃ m', m' < n - i ∧ m' = n - (i + 1) ∧ i + 1 ≤ n ∧ Pv (i + 1) ys σ H
theorem Nxt.mk {n i : Nat} {Pv : Nat → List V → St → Hp → Prop} {ys : List V} {σ : St} {H : Hp} (hi : i < n) (h : Pv (i + 1) ys σ H) : Nxt n i Pv ys σ H := ⟨n - (i + 1), by omega, rfl, hi, h⟩
theorem turns_list {K : PySem.W.Frag} {a D : Addr} {xs : List V} {g : TG} {tt : TT} {te : TE} {σ0 : St} {Qd : Hp → Prop} {H1 : Hp} (Pv : Nat → List V → St → Hp → Prop) (h0 : Pv 0 [] σ0 (upd H1 D (.lst [])))
    (hD : ∀ i ys σ H, Pv i ys σ H → H D = some (.lst ys) ∧ ys.length < sizeLine ∧ SqL K H a xs)
    (hs : ∀ i x ys σ H, xs[i]? = some x → Pv i ys σ H → g x σ H fun σ2 H4 => tt σ2 H4 fun c H5 => if c = true then te σ2 H5 fun y H6 => H6 D = some (.lst ys) ∧ Nxt xs.length i Pv (ys ++ [y]) σ2 (upd H6 D (.lst (ys ++ [y]))) else Nxt xs.length i Pv ys σ2 H5)
    (hd : ∀ ys σ H, Pv xs.length ys σ H → Qd H) : tTurns (Itl K a) g tt te σ0 D Qd H1 := by
  refine ⟨fun i m ys σ H => m = xs.length - i ∧ i ≤ xs.length ∧ Pv i ys σ H, ⟨xs.length, by simp, Nat.zero_le _, h0⟩, ?_⟩
  rintro i m ys σ H ⟨rfl, hi, p⟩
  obtain ⟨d1, d2, d3⟩ := hD i ys σ H p
  refine ⟨d1, ?_⟩
  by_cases hlt : i < xs.length
  · refine .inr ⟨⟨xs, xs[i], d3, by simp [hlt]⟩, d2, fun x H3 y => ?_⟩
    obtain ⟨e, y⟩ := y
    subst e
    exact hs i x ys σ _ (y xs d3) p
  · have e : i = xs.length := by omega
    subst e
    exact .inl ⟨⟨xs, d3, Nat.le_refl _⟩, hd ys σ H p⟩
theorem turns_range {lo : Int} {n : Nat} {D : Addr} {g : TG} {tt : TT} {te : TE} {σ0 : St} {Qd : Hp → Prop} {H1 : Hp} (Pv : Nat → List V → St → Hp → Prop) (h0 : Pv 0 [] σ0 (upd H1 D (.lst [])))
    (hD : ∀ i ys σ H, Pv i ys σ H → H D = some (.lst ys) ∧ ys.length < sizeLine)
    (hs : ∀ i ys σ H, i < n → Pv i ys σ H → g (.int (lo + i)) σ H fun σ2 H4 => tt σ2 H4 fun c H5 => if c = true then te σ2 H5 fun y H6 => H6 D = some (.lst ys) ∧ Nxt n i Pv (ys ++ [y]) σ2 (upd H6 D (.lst (ys ++ [y]))) else Nxt n i Pv ys σ2 H5)
    (hd : ∀ ys σ H, Pv n ys σ H → Qd H) : tTurns (Itr lo n) g tt te σ0 D Qd H1 := by
  refine ⟨fun i m ys σ H => m = n - i ∧ i ≤ n ∧ Pv i ys σ H, ⟨n, by simp, Nat.zero_le _, h0⟩, ?_⟩
  rintro i m ys σ H ⟨rfl, hi, p⟩
  obtain ⟨d1, d2⟩ := hD i ys σ H p
  refine ⟨d1, ?_⟩
  by_cases hlt : i < n
  · refine .inr ⟨hlt, d2, fun x H3 y => ?_⟩
    obtain ⟨e, y⟩ := y
    subst e y
    exact hs i ys σ _ hlt p
  · have e : i = n := by omega
    subst e
    exact .inl ⟨Nat.le_refl _, hd ys σ H p⟩
end L2
namespace L2
open PySem PySem.Spec PyProof.Rows
theorem paired_snoc {α β : Type} {F : α → β → Prop} : ∀ {l : List α} {m : List β} {a : α} {b : β}, Paired F l m → F a b → Paired F (l ++ [a]) (m ++ [b])
  | _, _, _, _, .nil, h => .cons h .nil
  | _, _, _, _, .cons q t, h => .cons q (paired_snoc t h)
end L2

/-! ### lists of bools -/
namespace L2
open PySem PySem.Spec PyProof.Rows
theorem vals_bls : ∀ {bs : List Bool} {us : List Value}, Vals (bs.map V.bl) us → us = bs.map Value.bool
  | [], _, h => by rw [List.map_nil] at h; cases h; rfl
  | b :: bs, _, h => by
    rw [List.map_cons] at h
    cases h with
    | cons h1 h2 => rw [vals_bls h2, List.map_cons]; cases h1; rfl
end L2

/-! ### more rules: isinstance of plain values, all, sorted of ints, == of lists of ints and of lists of such, insert -/
namespace Sx
open PySem PySem.W PyProof.Rows
theorem all_eqI (t u : List Int) (hl : t.length = u.length) : (List.range t.length).all (fun j => t.getD j 0 == u.getD j 0) = decide (t = u) := by
  rw [Bool.eq_iff_iff, List.all_eq_true, decide_eq_true_iff]
  constructor
  · intro h1
    apply List.ext_getElem hl
    intro i hi hj
    have := h1 i (List.mem_range.mpr hi)
    simpa [hi, hj] using this
  · rintro rfl
    exact fun i _ => by simp
/-- a list of ints lies there -/
def LstI (h : Heap) (a : Addr) (t : List Int) : Prop := ∃ its : Array Value, h.IsList a its ∧ IntsAre its.toList t
section
variable {A : Around} {s : Shared} {a b : Addr} {t u : List Int}
theorem rcAt_ints (ha : LstI s.heap a t) (hb : LstI s.heap b u) (hu : A.units < cLine) : SeqAt.RcAt A s (.ref a) (.ref b) (decide (t = u)) := by
  obtain ⟨ia, la, pa⟩ := ha
  obtain ⟨ib, lb, pb⟩ := hb
  have sa : ia.size = t.length := by rw [← pa.length, Array.length_toList]
  have sb : ib.size = u.length := by rw [← pb.length, Array.length_toList]
  by_cases hl : t.length = u.length
  · have := SeqAt.RcAt.lists (A := A) (e := fun j => t.getD j 0 == u.getD j 0) la lb (by omega) hu fun j h1 h2 => by
      obtain ⟨t1, e1⟩ := ints_at (i := j) (v := ia[j]) pa (by simp [h1])
      obtain ⟨t2, e2⟩ := ints_at (i := j) (v := ib[j]) pb (by simp [h2])
      rw [e1, e2]
      exact SeqAt.EqAt.int_int _ _ _ _
    rw [sa, all_eqI t u hl] at this
    exact this
  · have := SeqAt.RcAt.lists_lengths (A := A) la lb (by rw [sa, sb]; simpa using hl) hu
    rw [show decide (t = u) = false from decide_eq_false fun e => hl (by rw [e])]
    exact this
theorem lstI_one (ha : LstI s.heap a t) (hb : LstI s.heap a u) : t = u := by
  obtain ⟨ia, ⟨o, e, _, n, d⟩, pa⟩ := ha
  obtain ⟨ib, ⟨o', e', _, n', d'⟩, pb⟩ := hb
  rw [e] at e'
  cases e'
  rw [d] at d'
  injection d' with d1 _
  subst d1
  exact ints_fun pa pb
theorem eqAt_ints (ha : LstI s.heap a t) (hb : LstI s.heap b u) (hu : A.units < cLine) : SeqAt.EqAt A s (.ref a) (.ref b) (decide (t = u)) := by
  by_cases e : a = b
  · subst e
    rw [decide_eq_true (lstI_one ha hb)]
    exact SeqAt.EqAt.same _
  · exact SeqAt.EqAt.of_refs e (rcAt_ints ha hb hu)
end
end Sx
namespace L2
open PySem PySem.Spec PyProof.Rows
/-- lists of ints -/
abbrev LsH (H : Hp) (rs : List Addr) (ts : List (List Int)) : Prop := Paired (fun r t => H r = some (.lst (t.map V.int))) rs ts
section
variable {X : Cx} {pins : List (Addr × Obj)} {σ : St} {H : Hp} {s : Shared}
theorem Inv.lstI {a : Addr} {t : List Int} (I : Inv X pins σ H s) (hq : SqL X.K H a (t.map V.int)) : Sx.LstI s.heap a t := by
  obtain ⟨its, rv, pl, hz⟩ := I.list hq
  exact ⟨its.toArray, pl.isList, by simpa using intsAre_of rv⟩
theorem range_allB (bs : List Bool) : ((List.range bs.length).all fun i => (bs[i]?).getD true) = bs.all id := by
  rw [Bool.eq_iff_iff, List.all_eq_true, List.all_eq_true]
  constructor
  · intro h b hb
    obtain ⟨i, hi, rfl⟩ := List.getElem_of_mem hb
    have := h i (List.mem_range.mpr hi)
    simpa [hi] using this
  · intro h i hi
    have hi' := List.mem_range.mp hi
    simpa [hi'] using h bs[i] (List.getElem_mem hi')
/-- all(xs), bools -/
theorem call_allB (hc : X.calm = true) : CallR X (.builtin "all") (fun vs H Q => ∃ (a : Addr) (bs : List Bool), vs = [.ref a] ∧ SqL X.K H a (bs.map V.bl) ∧ Q (.bl (bs.all id)) H) := by
  intro pins s σ H vs us Q I r h
  obtain ⟨a, bs, rfl, hq, q⟩ := h
  obtain ⟨u, rfl, ru⟩ := vals1 r
  cases ru
  obtain ⟨its, rv, pl, hz⟩ := I.list hq
  have ei := vals_bls rv
  subst ei
  have hl := pl.isList
  have hlt : a < s.heap.objs.size := by obtain ⟨_, e, _⟩ := hl; exact Heap.lt_size e
  refine PySem.call_all_walk (wpAny_pyIter_list hl ?_)
  refine ⟨s.heap.objs.size, [s.heap.objs.size, a], [s.heap.objs.size], (bs.map Value.bool).toArray.size, _, _, fun i => (bs[i]?).getD true, rfl, Walks.list (A := X.A.in1) (I.ok.hd hc) _ a (Nat.ne_of_lt hlt) (bs.map Value.bool).toArray,
    ⟨⟨_, Heap.get?_push_size _ rfl, rfl, rfl⟩, hl.push _⟩, fun i v s' Q' E' hP hQ => ?_, fun h' tk hk => ?_⟩
  · have hP : (bs.map Value.bool)[i]? = some v := by simpa using hP
    rw [List.getElem?_map] at hP
    cases e : bs[i]? with
    | none => rw [e] at hP; cases hP
    | some b =>
      rw [e] at hP
      cases hP
      simp only [e, Option.getD_some] at hQ
      exact wpAny_truthy_bool hQ
  · have e : ((List.range (bs.map Value.bool).toArray.size).all fun i => (bs[i]?).getD true) = bs.all id := by
      rw [List.size_toArray, List.length_map]; exact range_allB bs
    rw [e]
    exact ⟨.bl _, H, I.kept fun b x z => hk b x (fun hm => by rw [List.mem_singleton.mp hm] at z; exact Nat.lt_irrefl _ (Heap.lt_size z)) (Heap.get?_push_of_some _ z), rfl, q⟩
end
end L2

/-! ### k13: the mathematics: parts of a web -/
namespace G13
abbrev Tri := Int × Int × Int
/-- some tie has these two ends -/
def tied (T : List Tri) (x y : Int) : Prop := ∃ t ∈ T, (t.1 = x ∧ t.2.1 = y) ∨ (t.1 = y ∧ t.2.1 = x)
/-- a way from x along ties, none of its further points out -/
inductive Reach (T : List Tri) (O : List Int) (x : Int) : Int → Prop
  | refl : Reach T O x x
  | step {y z : Int} : Reach T O x y → tied T y z → z ∉ O → Reach T O x z
section
variable {T : List Tri} {O : List Int} {x y z m : Int}
/-- the points -/
def pts (m : Int) : List Int := (List.range m.toNat).map fun (i : Nat) => (i : Int)
open Classical in
/-- the part of a point -/
noncomputable def comp (m : Int) (T : List Tri) (O : List Int) (x : Int) : List Int := (pts m).filter fun y => decide (Reach T O x y)
/-- the first point of its part -/
def first (T : List Tri) (O : List Int) (x : Int) : Prop := x ∉ O ∧ ∀ y, 0 ≤ y → y < x → y ∉ O → ¬ Reach T O y x
/-- what has been met ahead of point i -/
def met (m : Int) (T : List Tri) (O : List Int) (i : Int) (y : Int) : Prop := y ∈ O ∨ ∃ x, 0 ≤ x ∧ x < i ∧ first T O x ∧ y ∈ comp m T O x
def good (m : Int) (T : List Tri) : Prop := ∀ t ∈ T, 0 ≤ t.1 ∧ t.1 < m ∧ 0 ≤ t.2.1 ∧ t.2.1 < m
open Classical in
noncomputable def firsts (m : Int) (T : List Tri) (O : List Int) (i : Int) : List Int := (pts i).filter fun x => decide (first T O x)
/-- the parts of the points below i -/
noncomputable def partsTo (m : Int) (T : List Tri) (O : List Int) (i : Int) : List (List Int) := (firsts m T O i).map (comp m T O)
/-- a part hangs together: what is reached from one of it within it -/
structure Hangs (T : List Tri) (P : List Int) (h : Int) : Prop where
  ex : ∃ O : List Int, (∀ y ∈ P, Reach T O h y) ∧ ∀ y ∈ P, ∀ z, tied T y z → z ∉ O → z ∈ P
/-- where each point stands -/
def plc : Nat → List (List Int) → List (Int × Nat)
  | _, [] => []
  | k, c :: r => c.map (fun y => (y, k)) ++ plc (k + 1) r
end
end G13

namespace L2
open PySem PySem.Spec PyProof.Rows
/-- 0, 1, .. n - 1 -/
def upto (n : Nat) : List Int := (List.range n).map fun (i : Nat) => (i : Int)
def tLR (ta : TA) : TE := fun σ H Q => ta σ H fun vs H1 => ∃ j : Int, vs = [.int j] ∧ 0 ≤ j ∧ j ≤ 1000 ∧ ∀ l, H1 l = none → Q (.ref l) (upd H1 l (.lst ((upto j.toNat).map V.int)))
section
variable {X : Cx}
end
section
variable {X : Cx} {pins : List (Addr × Obj)} {σ : St} {H : Hp} {s : Shared}
end
end L2

/-! ### sum(x), x.index(y): lists of ints -/
namespace L2
open PySem PySem.Spec PyProof.Rows
section
variable {X : Cx}
theorem size_push_lt {h : Heap} {o : Obj} {b : Addr} (e : b < h.objs.size) : b < (h.push o).objs.size := by
  rw [size_push']
  exact Nat.lt_succ_of_lt e
theorem call_sumI (hc : X.calm = true) : CallR X (.builtin "sum") (fun vs H Q => ∃ (a : Addr) (t : List Int), vs = [.ref a] ∧ SqL X.K H a (t.map V.int) ∧ Q (.int t.sum) H) := by
  intro pins s σ H vs us Q I r h
  obtain ⟨a, t, rfl, hq, q⟩ := h
  obtain ⟨u, rfl, ru⟩ := vals1 r
  cases ru
  obtain ⟨its, rv, pl, hz⟩ := I.list hq
  have hi := intsAre_of rv
  have hlen : its.length = t.length := hi.length
  have hl := pl.isList
  have hlt : a < s.heap.objs.size := by obtain ⟨_, e, _⟩ := hl; exact Heap.lt_size e
  refine PySem.call_sum_walkAnyS (wpAny_pyIter_list hl ?_)
  refine ⟨s.heap.objs.size, [s.heap.objs.size, a], [s.heap.objs.size], _, its.toArray.size, _, _, fun i => t.getD i 0, rfl, (Walks.list (A := X.A.in1) (I.ok.hd hc) _ a (Nat.ne_of_lt hlt) its.toArray).toS,
    ⟨⟨_, Heap.get?_push_size _ rfl, rfl, rfl⟩, hl.push _⟩, fun b hb => ?_, fun i v hP => ?_, fun s' t' mv => ?_⟩
  · rcases List.mem_cons.mp hb with rfl | hb
    · rw [size_push']; exact Nat.lt_succ_self _
    · rw [List.mem_singleton] at hb
      subst hb
      exact size_push_lt hlt
  · exact Sx.ints_at (i := i) (v := v) hi (by simpa using hP)
  · have e := mv.eq_with
    rw [e]
    have e2 : preSum (fun i => t.getD i 0) its.toArray.size = t.sum := by
      rw [PyProof.Rows.preSum_getD, List.size_toArray, hlen, List.take_length]
    rw [e2]
    exact ⟨.int t.sum, H, I.kept fun b x z => mv.heap b x (fun hm => by rw [List.mem_singleton.mp hm] at z; exact Nat.lt_irrefl _ (Heap.lt_size z)) (Heap.get?_push_of_some _ z), ⟨_, rfl⟩, q⟩
end
end L2

/-! ### what the laws over webs and pairs share -/
namespace Mt
end Mt
namespace L2
open PySem PySem.Spec PyProof.Rows
theorem PS.imp {X : Cx} {st : Stmt} {t t' : TS} (h : PS X st t) (i : ∀ D σ H, t' D σ H → t D σ H) : PS X st t' := fun pins s σ H D I q => h pins s σ H D I (i D σ H q)
theorem pick2 {xs : List Int} {z : Int} (h0 : 0 ≤ z) (h1 : z < xs.length) : ∃ v : Int, v ∈ xs ∧ atI (xs.map V.int) z = some (.int v) := by
  have hz : z.toNat < xs.length := by omega
  refine ⟨xs[z.toNat], by simp, ?_⟩
  have := atI_nat (xs := xs.map V.int) (j := z.toNat) (v := .int xs[z.toNat]) (by simp [hz])
  rwa [Int.toNat_of_nonneg h0] at this
theorem map_int_at {xs : List Int} {i : Nat} {v : V} (h : (xs.map V.int)[i]? = some v) : ∃ z, v = .int z ∧ xs[i]? = some z := by
  rw [List.getElem?_map] at h
  cases e : xs[i]? with
  | none => rw [e] at h; cases h
  | some z => rw [e] at h; exact ⟨z, (Option.some.inj h).symm, rfl⟩
/-- a cut of any list -/
def cutA {α : Type} (xs : List α) (lo hi : Option Int) : List α := (xs.drop (HT.sIx xs.length 0 lo)).take (HT.sIx xs.length xs.length hi - HT.sIx xs.length 0 lo)
theorem cut_map {α : Type} (f : α → V) (xs : List α) (lo hi : Option Int) : cutV (xs.map f) lo hi = (cutA xs lo hi).map f := by
  unfold cutV cutA
  rw [List.length_map, List.map_take, List.map_drop]
theorem sIx_lo (n : Nat) {i : Int} (h : 0 ≤ i) : HT.sIx n 0 (some i) = min i.toNat n := by
  unfold HT.sIx
  dsimp only
  rw [if_neg (by omega)]
theorem sIx_hi (n : Nat) {i : Int} (h : 0 ≤ i) : HT.sIx n n (some i) = min i.toNat n := by
  unfold HT.sIx
  dsimp only
  rw [if_neg (by omega)]
/-- all of them pairs of ints -/
def Prs (H : Hp) (rs : List Addr) : Prop := ∀ r ∈ rs, ∃ x y : Int, H r = some (.tup [.int x, .int y])
def Two (ts : List (List Int)) : Prop := ∀ t ∈ ts, ∃ x y : Int, t = [x, y]
/-- an object laid out for the first time -/
theorem Same.new' {H : Hp} {p : Addr} {o : HO} (h : H p = none) : Same H (upd H p o) := fun b u e => by
  rw [upd_ne (ne_of_none e h)]
  exact e
end L2

/-! ### lists of ints -/
namespace L2
open PySem PySem.Spec PyProof.Rows
theorem cutA_drop {α : Type} (xs : List α) {i : Int} (h : 0 ≤ i) : cutA xs (some i) none = xs.drop i.toNat := by
  unfold cutA
  rw [sIx_lo _ h]
  have e : HT.sIx xs.length xs.length none = xs.length := rfl
  rw [e]
  by_cases q : i.toNat ≤ xs.length
  · rw [Nat.min_eq_left q, List.take_of_length_le (by rw [List.length_drop]; exact Nat.le_refl _)]
  · rw [Nat.min_eq_right (by omega), Nat.sub_self, List.take_zero, List.drop_eq_nil_of_le (by omega)]
theorem cutA_take {α : Type} (xs : List α) {i : Int} (h : 0 ≤ i) : cutA xs none (some i) = xs.take i.toNat := by
  unfold cutA
  rw [sIx_hi _ h]
  have e : HT.sIx xs.length 0 none = 0 := rfl
  rw [e, List.drop_zero, Nat.sub_zero]
  by_cases q : i.toNat ≤ xs.length
  · rw [Nat.min_eq_left q]
  · rw [Nat.min_eq_right (by omega), List.take_length, List.take_of_length_le (by omega)]
theorem atI_get' {xs : List Int} {z : Int} {k : Nat} (e : z = k) (h : k < xs.length) : atI (xs.map V.int) z = some (.int (xs.getD k 0)) := by
  subst e
  exact atI_nat (by simp [h])
theorem inV_ints (x : Int) (t : List Int) : inV (.int x) (t.map V.int) = decide (x ∈ t) := by
  unfold inV
  rw [List.any_map, Bool.eq_iff_iff, decide_eq_true_iff, List.any_eq_true]
  constructor
  · rintro ⟨y, hy, e⟩
    have e : (y == x) = true := e
    exact beq_iff_eq.mp e ▸ hy
  · exact fun h => ⟨x, h, beq_self_eq_true x⟩
theorem flat_ints (us : List Int) : (us.map V.int).all flatV = true := by
  rw [List.all_map]
  exact List.all_eq_true.mpr fun _ _ => rfl
theorem upto_succ (n : Nat) : upto (n + 1) = upto n ++ [(n : Int)] := by
  unfold upto
  rw [List.range_succ, List.map_append]
  rfl
theorem upto_len (n : Nat) : (upto n).length = n := by simp [upto]
theorem upto_nd (n : Nat) : (upto n).Nodup := by
  induction n with
  | zero => exact List.nodup_nil
  | succ n ih =>
    rw [upto_succ, List.nodup_append]
    refine ⟨ih, by simp, fun a ha b hb => ?_⟩
    rw [List.mem_singleton] at hb
    obtain ⟨k, hk, rfl⟩ := List.mem_map.mp ha
    have := List.mem_range.mp hk
    omega
theorem upto_mem {n : Nat} {x : Int} : x ∈ upto n ↔ 0 ≤ x ∧ x < n := by
  unfold upto
  rw [List.mem_map]
  constructor
  · rintro ⟨k, hk, rfl⟩
    have := List.mem_range.mp hk
    omega
  · rintro ⟨h0, h1⟩
    exact ⟨x.toNat, List.mem_range.mpr (by omega), by omega⟩
theorem ix_listK {X : Cx} (K : PySem.W.Frag) (h : X.K = K) : IxR X (rIxL K) := by subst h; exact ix_list
theorem ix_tupK {X : Cx} (K : PySem.W.Frag) (h : X.K = K) : IxR X (rIxT K) := by subst h; exact ix_tup
end L2

/-! ### sets with a price: lists of (list of ints, int) -/
namespace L2
open PySem PySem.Spec PyProof.Rows
/-- a tuple of a list of ints and an int -/
def SetH (H : Hp) (q : Addr) (s : List Int × Int) : Prop := ∃ m, H q = some (.tup [.ref m, .int s.2]) ∧ H m = some (.lst (s.1.map V.int))
abbrev SetsH (H : Hp) (qs : List Addr) (ss : List (List Int × Int)) : Prop := Paired (SetH H) qs ss
theorem SetH.same {H H' : Hp} {q : Addr} {s : List Int × Int} (h : SetH H q s) (z : Same H H') : SetH H' q s := by
  obtain ⟨m, h1, h2⟩ := h
  exact ⟨m, z _ _ h1, z _ _ h2⟩
theorem paired_imp {α β : Type} {F G : α → β → Prop} (f : ∀ a b, F a b → G a b) : ∀ {l : List α} {m : List β}, Paired F l m → Paired G l m
  | _, _, .nil => .nil
  | _, _, .cons h t => .cons (f _ _ h) (paired_imp f t)
theorem SetsH.same {H H' : Hp} {qs : List Addr} {ss : List (List Int × Int)} (h : SetsH H qs ss) (z : Same H H') : SetsH H' qs ss := paired_imp (fun _ _ x => x.same z) h
theorem LsH.same {H H' : Hp} {qs : List Addr} {ss : List (List Int)} (h : LsH H qs ss) (z : Same H H') : LsH H' qs ss := paired_imp (fun _ _ x => z _ _ x) h
/-- the set at a place -/
theorem set_at {H : Hp} {qs : List Addr} {ss : List (List Int × Int)} (h : SetsH H qs ss) {i : Nat} {x : V} (e : (qs.map V.ref)[i]? = some x) : ∃ q s, x = .ref q ∧ ss[i]? = some s ∧ SetH H q s := by
  rw [List.getElem?_map] at e
  obtain ⟨q, eq, rfl⟩ := Option.map_eq_some_iff.mp e
  obtain ⟨s, es, hs⟩ := Sx.pair_at h eq
  exact ⟨q, s, rfl, es, hs⟩
section
variable {X : Cx} {pins : List (Addr × Obj)} {σ : St} {H : Hp} {s : Shared}
/-- xs.count(y) -/
theorem mt_count : MtM X "list.count" (fun x vs H Q => ∃ (l : Addr) (t : List Int) (z : Int), x = .ref l ∧ vs = [.int z] ∧ H l = some (.lst (t.map V.int)) ∧ Q (.int (t.count z : Nat)) H) := by
  intro pins s σ H x vs v us Q I rx rv h
  obtain ⟨l, t, z, rfl, rfl, hH, q⟩ := h
  cases rx
  obtain ⟨u, rfl, ru⟩ := Vals.one rv
  obtain ⟨tk, rfl⟩ := ru
  obtain ⟨zz, its, n, r, hl, e⟩ := I.lstM hH
  have hi := intsAre_of r
  let p : Value → Bool := fun y => match y with | .int a _ => a == z | _ => false
  have hc : ∀ {vs : List Value} {ts : List Int}, IntsAre vs ts → vs.countP p = ts.count z := by
    intro vs ts h
    induction h with
    | nil => rfl
    | cons n t h ih =>
      rw [List.countP_cons, List.count_cons, ih]
  refine call_meets PySem.F.slot_list_count ⟨_, e, rfl⟩ PySem.F.entry_list_count (PySem.F.args_list_count_2 _ _) (PySem.SeqAt.list_countAt l its.toArray n none #[] (.int z tk) p) ⟨e, ?_, ?_⟩
  · intro y hy
    obtain ⟨m, hm, rfl⟩ := Array.getElem_of_mem hy
    obtain ⟨t', et⟩ := Sx.ints_at (i := m) (v := its.toArray[m]) hi (by simp)
    rw [et]
    exact SeqAt.EqAt.int_int _ _ _ _
  · have e2 := hc hi
    refine ⟨.int (t.count z : Nat), H, I.tok _, ⟨s.toks, ?_⟩, q⟩
    show Value.int ((its.toArray.toList.countP p : Nat)) _ = Value.int _ _
    rw [show its.toArray.toList = its by simp, e2]
open Classical in
/-- does the list t stand there -/
noncomputable def isL (H : Hp) (t : List Int) : Value → Bool
  | .ref r => decide (H r = some (.lst (t.map V.int)))
  | _ => false
theorem isL_ref {H : Hp} {t u : List Int} {r : Addr} (h : H r = some (.lst (u.map V.int))) : isL H t (.ref r) = decide (u = t) := by
  classical
  unfold isL
  rw [Bool.eq_iff_iff, decide_eq_true_iff, decide_eq_true_iff, h]
  constructor
  · intro e
    injection e with e
    injection e with e
    exact ints_inj e
  · rintro rfl; rfl
theorem any_isL {H : Hp} {t : List Int} : ∀ {rs : List Addr} {ts : List (List Int)}, LsH H rs ts → (rs.map Value.ref).any (isL H t) = ts.any (fun u => decide (u = t))
  | _, _, .nil => rfl
  | _, _, .cons h r => by rw [List.map_cons, List.any_cons, List.any_cons, isL_ref h, any_isL r]
/-- a list not in a list of lists -/
theorem op_notInLL (hu : X.A.units + 1 < cLine) : OpR X (compareOp .NotIn) (fun x y H Q => ∃ b t p rs ts, x = .ref b ∧ H b = some (.lst (t.map V.int)) ∧ y = .ref p ∧ SqL X.K H p (rs.map V.ref) ∧ LsH H rs ts ∧ Q (.bl (!ts.any fun u => decide (u = t))) H) := by
  intro pins s σ H x y v u Q I rx ry h
  obtain ⟨b, t, p, rs, ts, rfl, hb, rfl, hq, hp, q⟩ := h
  cases rx
  cases ry
  obtain ⟨its, rv, pl, hz⟩ := I.list hq
  have ei := refs_of rv
  subst ei
  refine SeqAt.notIn_listAt (isL H t) pl.isList (fun v hv => ?_) ⟨.bl _, H, I, rfl, ?_⟩
  · have hv' : v ∈ rs.map Value.ref := by simpa using hv
    obtain ⟨r, hr, rfl⟩ := List.mem_map.mp hv'
    obtain ⟨i, hi, e⟩ := List.getElem_of_mem hr
    obtain ⟨t', _, ht⟩ := Sx.pair_at (i := i) (a := r) hp (by rw [← e]; simp [hi])
    rw [isL_ref ht]
    exact Sx.eqAt_ints (I.lstI (SqL.of ht)) (I.lstI (SqL.of hb)) hu
  · rw [show (rs.map Value.ref).toArray.any (isL H t) = (rs.map Value.ref).any (isL H t) by simp, any_isL hp]
    exact q
/-- prices: a tuple of an int, a list of ints, a list of such -/
def PriH (H : Hp) (p : Addr) (u : Int) (t : List Int) (ss : List (List Int × Int)) : Prop := ∃ (a b : Addr) (qs : List Addr), H p = some (.tup [.int u, .ref a, .ref b]) ∧ H a = some (.lst (t.map V.int)) ∧ H b = some (.lst (qs.map V.ref)) ∧ SetsH H qs ss
theorem PriH.same {H H' : Hp} {p : Addr} {u : Int} {t : List Int} {ss : List (List Int × Int)} (h : PriH H p u t ss) (z : Same H H') : PriH H' p u t ss := by
  obtain ⟨a, b, qs, h1, h2, h3, h4⟩ := h
  exact ⟨a, b, qs, z _ _ h1, z _ _ h2, z _ _ h3, SetsH.same h4 z⟩
end
/-- a comprehension over such a list: those that pass, an int of each -/
theorem turns_sets {K : PySem.W.Frag} {a D : Addr} {qs : List Addr} {ss : List (List Int × Int)} {tt : TT} {te : TE} {cs : St} {Qd : Hp → Prop} {H1 : Hp} (c : List Int × Int → Bool) (r : List Int × Int → Int)
    (ha : H1 a = some (.lst (qs.map V.ref))) (hs : SetsH H1 qs ss) (hn : ss.length ≤ 900) (hD : H1 D = none)
    (ht : ∀ s ∈ ss, ∀ (m : Addr) (e0 : Option V) (H4 : Hp) (κ : Bool → Hp → Prop), Same H1 H4 → H4 m = some (.lst (s.1.map V.int)) → (∀ H5, Same H4 H5 → κ (c s) H5) → tt (e0 :: some (.ref m) :: some (.int s.2) :: cs) H4 κ)
    (he : ∀ s ∈ ss, c s = true → ∀ (m : Addr) (e0 : Option V) (H4 : Hp) (κ : VK), Same H1 H4 → H4 m = some (.lst (s.1.map V.int)) → (∀ H5, Same H4 H5 → κ (.int (r s)) H5) → te (e0 :: some (.ref m) :: some (.int s.2) :: cs) H4 κ)
    (hd : ∀ H5, Same H1 H5 → H5 D = some (.lst (((ss.filter c).map r).map V.int)) → Qd H5) :
    tTurns (Itl K a) (gTup K 2 (gCons (gName 1) (gCons (gName 2) gNil))) tt te (none :: none :: none :: cs) D Qd H1 := by
  have lq := Paired.length hs
  refine turns_list (K := K) (a := a) (xs := qs.map V.ref) (fun i ys σ H5 => ∃ (e0 e1 e2 : Option V), ys = ((((ss.take i).filter c).map r).map V.int) ∧ σ = e0 :: e1 :: e2 :: cs ∧ Same H1 H5 ∧ H5 D = some (.lst ys)) ⟨none, none, none, rfl, rfl, Same.new' hD, upd_same⟩ ?_ ?_ ?_
  · rintro i ys σ H5 ⟨e0, e1, e2, rfl, rfl, s5, h5⟩
    refine ⟨h5, small1000 ?_, SqL.of (s5 a _ ha)⟩
    rw [List.length_map, List.length_map]
    have := List.length_filter_le c (ss.take i)
    rw [List.length_take] at this
    omega
  · rintro i x ys σ H5 hi ⟨e0, e1, e2, rfl, rfl, s5, h5⟩
    have hil : i < (qs.map V.ref).length := (List.getElem?_eq_some_iff.mp hi).1
    obtain ⟨q, s, rfl, es, m, hq, hm⟩ := set_at (SetsH.same hs s5) hi
    have ms : s ∈ ss := List.mem_of_getElem? es
    have ef : (ss.take (i + 1)).filter c = (ss.take i).filter c ++ [s].filter c := by
      rw [List.take_succ, es, List.filter_append]; rfl
    refine ⟨q, _, rfl, SqT.of hq, rfl, _, _, rfl, _, _, rfl, rfl, ?_⟩
    refine ht s ms m e0 H5 _ s5 hm fun H6 s6 => ?_
    have s06 := s5.trans s6
    cases hc : c s with
    | true =>
      rw [if_pos rfl]
      refine he s ms hc m e0 H6 _ s06 (s6 m _ hm) fun H7 s7 => ?_
      have h7 := s7 D _ (s6 D _ h5)
      refine ⟨h7, Nxt.mk hil ⟨_, _, _, ?_, rfl, fun b o e => ?_, upd_same⟩⟩
      · rw [ef, List.map_append, List.map_append, show [s].filter c = [s] by simp [hc]]; rfl
      · rw [upd_ne (ne_of_none e hD)]; exact s7 b o (s06 b o e)
    | false =>
      rw [if_neg (by decide)]
      rw [show [s].filter c = [] by simp [hc], List.append_nil] at ef
      exact Nxt.mk hil ⟨_, _, _, by rw [ef], rfl, s06, s6 D _ h5⟩
  · rintro ys σ0 H5 ⟨e0, e1, e2, rfl, rfl, s5, h5⟩
    rw [List.length_map, lq, List.take_length] at h5
    exact hd H5 s5 h5
end L2
namespace L2
open PySem PySem.Spec PyProof.Rows
theorem cutA_last {α : Type} (xs : List α) : cutA xs none (some (-1)) = xs.take (xs.length - 1) := by
  unfold cutA
  have e0 : HT.sIx xs.length 0 none = 0 := rfl
  have e1 : ((HT.sIx xs.length xs.length (some (-1)) : Nat) : Int) = max (-1 + (xs.length : Int)) 0 := by rw [← HT.clip_eq]; rfl
  have e2 : HT.sIx xs.length xs.length (some (-1)) = xs.length - 1 := by omega
  rw [e0, e2, List.drop_zero, Nat.sub_zero]
/-- some of the points, an odd number of them or none -/
def GoodT (n : Nat) (t : List Int) : Prop := t.Sublist (upto n) ∧ (t = [] ∨ t.length % 2 = 1)
theorem GoodT.nd {n : Nat} {t : List Int} (h : GoodT n t) : t.Nodup := h.1.nodup (upto_nd n)
theorem GoodT.len {n : Nat} {t : List Int} (h : GoodT n t) : t.length ≤ n := by have := h.1.length_le; rwa [upto_len] at this
/-- tuples and lists of ints with something in them stay -/
def Kp (H H' : Hp) : Prop := (∀ a xs, H a = some (.tup xs) → H' a = some (.tup xs)) ∧ ∀ a (t : List Int), t ≠ [] → H a = some (.lst (t.map V.int)) → H' a = some (.lst (t.map V.int))
theorem Kp.of {H H' : Hp} (h : Same H H') : Kp H H' := ⟨fun a xs e => h a _ e, fun a t _ e => h a _ e⟩
theorem Kp.upd {H : Hp} {l : Addr} {qs : List Addr} {o : HO} (h : H l = some (.lst (qs.map V.ref))) : Kp H (upd H l o) := by
  refine ⟨fun a xs e => ?_, fun a t n e => ?_⟩
  · rw [upd_ne (fun z => by subst z; rw [h] at e; cases e)]; exact e
  · rw [upd_ne (fun z => ?_)]
    · exact e
    · subst z
      rw [h] at e
      injection e with e
      injection e with e
      cases t with
      | nil => exact n rfl
      | cons x t =>
        cases qs with
        | nil => cases e
        | cons q qs => rw [List.map_cons, List.map_cons] at e; injection e with e _; cases e
theorem LsH.kp {H H' : Hp} (k : Kp H H') : ∀ {rs : List Addr} {ts : List (List Int)}, LsH H rs ts → (∀ t ∈ ts, t ≠ []) → LsH H' rs ts
  | _, _, .nil, _ => .nil
  | _, _, .cons h r, n => .cons (k.2 _ _ (n _ (.head _)) h) (LsH.kp k r fun t ht => n t (.tail _ ht))
theorem SetsH.kp {H H' : Hp} (k : Kp H H') : ∀ {rs : List Addr} {ss : List (List Int × Int)}, SetsH H rs ss → (∀ s ∈ ss, s.1 ≠ []) → SetsH H' rs ss
  | _, _, .nil, _ => .nil
  | _, _, .cons ⟨m, h1, h2⟩ r, n => .cons ⟨m, k.1 _ _ h1, k.2 _ _ (n _ (.head _)) h2⟩ (SetsH.kp k r fun t ht => n t (.tail _ ht))
theorem caps0 {X : Cx} {scope : Scope} {own : List Str} (h1 : closureFor scope X.env = pure []) (h2 : scope.kind = .function) (h3 : ∀ y ∈ scope.names, y.2 ≠ .cell ∧ y.2 ≠ .free) (h4 : ∀ y ∈ scope.names, y.2 = .local → scope.names.lookup y.1 = some .local) : Caps X scope [] own [] [] := by
  refine ⟨h1, fun x c e => (by cases e), h2, fun y hy => (h3 y hy).1, h4, fun x hx => ?_, rfl, fun i x e => (by cases e)⟩
  have key : ∀ y ∈ (relabel scope X.env).names, y.2 ≠ .cell ∧ y.2 ≠ .free := fun y hy => by
    obtain ⟨z, hz, e⟩ := List.mem_map.mp hy
    have h' := h3 z hz
    obtain ⟨n, k⟩ := z
    have hk : (k == NameKind.free) = false := beq_eq_false_iff_ne.mpr h'.2
    simp only [hk, Bool.false_and, Bool.false_eq_true, if_false] at e
    subst e
    exact h'
  rcases hx with e | e
  · exact absurd rfl (key _ (PySem.mem_of_lookup e)).1
  · exact absurd rfl (key _ (PySem.mem_of_lookup e)).2
/-- a method of a built-in kind, in a comprehension -/
theorem pe_bmK {X : Cx} {o e : Expr} {es : List Expr} {to : TE} {t : TA} {name : Str} {apos cpos : Pos} {T id : String} {r : V → List V → Hp → VK → Prop} (K : PySem.W.Frag) (hK : X.K = K) (pa : PlainAttrs T) (slot : Slot T name id) (hty : typeOf (.builtin id) = pure (.type "method_descriptor")) (hm : MtR X id r) (ho : PE X o to) (ha : PA X (e :: es) t)
    (hbase : attributeBase o name X.env (eval o X.env) = eval o X.env := by rfl)
    (hfew : ((backTo cpos (starEach (e :: es) X.env)).all (fun x => !x.1) && (backToKw cpos (keywordEach [] X.env)).all (fun x => x.1.isSome)
      && decide ((e :: es).length + ([] : List Keyword).length + (if ([] : List Keyword).isEmpty then 0 else 1) < 30)) = true := by rfl)
    (hline : (apos.endLine == cpos.line) = true := by rfl) (hs : starEach (e :: es) X.env = (false, eval e X.env) :: starEach es X.env := by rfl) (hplain : (backTo cpos (starEach es X.env)).any (·.1) = false := by rfl) :
    PE X (.Call (.Attribute o name apos) (e :: es) [] cpos) (tBM K T r to t) := by
  subst hK
  exact pe_bm pa slot hty hm ho ha hbase hfew hline hs hplain
theorem call_listK {X : Cx} (K : PySem.W.Frag) (h : X.K = K) : CallR X (.type "list") (fun xs H Q => ∃ p ys, xs = [.ref p] ∧ (SqL K H p ys ∨ SqT K H p ys) ∧ ∀ l, H l = none → Q (.ref l) (upd H l (.lst ys))) := by
  subst h
  exact call_list_of
end L2

/-! ### k11: more rules: a loop over zip(..), list(range(..)), list(reversed(..)), != of tuples -/
namespace L2
open PySem PySem.Spec PyProof.Rows
/-- two lists side by side -/
def Itz (K : PySem.W.Frag) (a b : Addr) : It :=
  ⟨fun i H => ∃ xs ys x y, SqL K H a xs ∧ SqL K H b ys ∧ xs[i]? = some x ∧ ys[i]? = some y,
   fun i H x H' => ∃ t u v, x = .ref t ∧ H t = none ∧ H' = upd H t (.tup [u, v]) ∧ ∀ xs ys, SqL K H a xs → SqL K H b ys → xs[i]? = some u ∧ ys[i]? = some v,
   fun i H => ∃ xs ys, SqL K H a xs ∧ SqL K H b ys ∧ (xs.length ≤ i ∨ ys.length ≤ i)⟩
section
variable {X : Cx} {pins : List (Addr × Obj)} {σ : St} {H H' : Hp} {s : Shared} {h' : Heap}
/-- an iterator's own objects have turned, some new tuple may have come -/
theorem Inv.turnedL {t' : Nat} {ch : List Addr} (I : Inv X pins σ H s) (k : ∀ b o, b ∉ ch → s.heap.get? b = some o → h'.get? b = some o) (f : ∀ b ∈ ch, FpOk X pins H b)
    (old : ∀ b u, H b = some u → H' b = some u) (free : ∀ b o, b ∉ ch → s.heap.get? b = some o → H b = none → H' b = none) (new : ∀ b u, H' b = some u → H b = none → ObjOk X.prog X.w H' h' b u) : Inv X pins σ H' { s with heap := h', toks := t' } := by
  have out : ∀ b u, H b = some u → b ∉ ch := fun b u e z => by rw [(f b z).1] at e; cases e
  refine I.step (g' := s.gens) (d' := s.drawn) (ch := ch) (fun b hb => ?_) (fun b o _ _ hc e _ => k b o hc e) (fun b o _ _ hc e _ => ⟨o.slots, k b o hc e⟩) free
    (fun b o hc e => ⟨o, k b o hc e⟩) (fun _ _ e => old _ _ e) (fun _ _ _ e => old _ _ e) (fun b ps e => ⟨#[], by rw [old _ _ e]; simp⟩) (fun m hm => ?_) (fun b u e => ?_) I.bare
  · obtain ⟨_, g1, _, g3, g4, g5⟩ := f b hb
    exact ⟨g3, g1, g4, g5⟩
  · obtain ⟨o, es, ep, ho, r⟩ := hm
    exact ⟨o, es, ep, k _ o (fun z => (f _ z).2.1 rfl) ho, r⟩
  · cases q : H b with
    | none => exact new b u e q
    | some v =>
      have := old b v q
      rw [e] at this
      cases this
      refine (I.hok b u q).stay (fun c o hc w => k c o ?_ w) (fun _ w => old _ _ w) fun _ _ w => old _ _ w
      rcases hc with z | z
      · rw [z]; exact out b u q
      · exact out c _ z
end
section
variable {X : Cx} {elts : List Expr} {x1 : Nat} {p0 : Pos}
def iZip (K : PySem.W.Frag) (ta : TA) : TI := fun σ H R => ta σ H fun vs H1 => ∃ a b, vs = [.ref a, .ref b] ∧ (∃ xs, SqL K H1 a xs) ∧ (∃ ys, SqL K H1 b ys) ∧ R (Itz K a b) H1
end
end L2

/-! ### a comprehension over enumerate(x) -/
namespace L2
open PySem PySem.Spec PyProof.Rows
/-- a list's items with their numbers -/
def Itn (K : PySem.W.Frag) (a : Addr) : It :=
  ⟨fun i H => ∃ xs x, SqL K H a xs ∧ xs[i]? = some x,
   fun i H x H' => ∃ t u, x = .ref t ∧ H t = none ∧ H' = upd H t (.tup [.int i, u]) ∧ ∀ xs, SqL K H a xs → xs[i]? = some u,
   fun i H => ∃ xs, SqL K H a xs ∧ xs.length ≤ i⟩
theorem turn_enum {P : Program} {w : World} {K : PySem.W.Frag} {elts : List Expr} {x1} {pos : Pos} {e it a : Addr} (D : e ≠ it) :
    Turn P w K (.Tuple elts x1 pos) (Itn K a) [e, it] e (fun i h => (∃ old, IsEnum h e it i old) ∧ h.IsListIter it a i) where
  mem := by simp
  obj := fun i h st c hc => by
    obtain ⟨⟨u, s1⟩, ⟨o4, e4, _, d4⟩⟩ := st
    simp only [List.mem_cons, List.not_mem_nil, or_false] at hc
    rcases hc with rfl | rfl
    · exact ⟨_, s1, fun v q => by cases (show Data.fields _ = Data.cell v from q)⟩
    · exact ⟨o4, e4, fun v q => by rw [d4] at q; cases q⟩
  keep := fun i h h' st k => by
    obtain ⟨⟨u, s1⟩, s4⟩ := st
    exact ⟨⟨u, k e (by simp) _ s1⟩, s4.at fun o q => k it (by simp) o q⟩
  item := by
    intro X hP hw hK hc i pins s σ H E I hf st hg
    subst hP hw hK
    obtain ⟨⟨u, s1⟩, s4⟩ := st
    obtain ⟨xs, x, hx, ex⟩ := hg
    obtain ⟨ia, ra, pa, za⟩ := I.list hx
    obtain ⟨vx, evx, rx⟩ := Vals.get ra ex
    refine wpAny_pyNext_enum_item s1 s4 pa.isList (x := vx) (by simpa using evx) D fun h1 a1 a2 a3 a4 a5 => ⟨_, rfl, ?_⟩
    refine wpAny_letOwnedTupleGo_enum a1 fun h2 b1 sb => ?_
    have nz : ∀ {c : Addr} {o : Obj}, s.heap.get? c = some o → s.heap.objs.size ≠ c := fun e => Nat.ne_of_gt (Heap.lt_size e)
    have hT : H s.heap.objs.size = none := I.hok.fresh (Nat.le_refl _)
    have tz : s.heap.objs.size ≠ e := nz s1
    have kept : ∀ c o, c ∉ [e, it] → s.heap.get? c = some o → h2.get? c = some o := fun c o hc e => by
      simp only [List.mem_cons, List.not_mem_nil, or_false, not_or] at hc
      exact sb.extBut c o hc.1 (a5 c o hc.1 hc.2 e)
    have pT := sb.extBut _ _ tz a3
    have I2 : Inv X pins σ (upd H s.heap.objs.size (.tup [.int i, x])) { s with heap := h2, toks := s.toks + 1 } := by
      refine I.turnedL kept hf (fun c u e => by rw [upd_ne (ne_of_none e hT)]; exact e) (fun c o _ e n => by rw [upd_ne (Ne.symm (nz e))]; exact n) fun c u e n => ?_
      by_cases ec : c = s.heap.objs.size
      · subst ec
        rw [upd_same] at e
        cases e
        exact ⟨by show 2 ≤ sizeLine; decide, [.int i s.toks, vx], .cons ⟨_, rfl⟩ (.cons rx .nil), _, pT, rfl, 0, rfl⟩
      · rw [upd_ne ec, n] at e
        cases e
    refine ⟨.ref s.heap.objs.size, _, I2, rfl, ⟨_, x, rfl, hT, rfl, fun xs' hx' => ?_⟩, ⟨⟨_, b1⟩, a2.extBut sb.extBut (Ne.symm D)⟩, fun c hc => ?_⟩
    · rw [I.list_inj hx' hx]
      exact ex
    · rw [upd_ne fun q => ?_]
      · exact (hf c hc).1
      · subst q
        simp only [List.mem_cons, List.not_mem_nil, or_false] at hc
        obtain ⟨_, e4, _⟩ := s4
        rcases hc with q | q
        · exact nz s1 q
        · exact nz e4 q
  done := by
    intro X hP hw hK hc i pins s σ H E I hf st hg
    subst hP hw hK
    obtain ⟨⟨u, s1⟩, s4⟩ := st
    obtain ⟨xs, hx, le⟩ := hg
    obtain ⟨ia, ra, pa, za⟩ := I.list hx
    have la := Vals.length ra
    refine wpAny_pyNext_enum_end (I.ok.hd hc) s1 s4 pa.isList (by simp; omega) fun h1 k => ⟨rfl, I.turnedL (t' := s.toks) (fun c o hc e => ?_) hf (fun _ _ e => e) (fun _ _ _ _ e => e) fun c u e n => by rw [n] at e; cases e⟩
    simp only [List.mem_cons, List.not_mem_nil, or_false, not_or] at hc
    exact k c o hc.2 e
  self := fun _ _ _ _ _ st h => by
    obtain ⟨⟨u, s1⟩, _⟩ := st
    exact wpAny_pyIter_enum s1 h
section
variable {X : Cx} {elts : List Expr} {x1 : Nat} {p0 : Pos}
theorem boot_enumerate : bootBuiltins "enumerate" = some (.type "enumerate") := by decide +kernel
def iEnum (K : PySem.W.Frag) (ta : TA) : TI := fun σ H R => ta σ H fun vs H1 => ∃ a, vs = [.ref a] ∧ (∃ xs, SqL K H1 a xs) ∧ R (Itn K a) H1
theorem pi_enum {a : Expr} {ta : TA} {p pos : Pos} (hg : Gl X "enumerate") (hm : X.mg "enumerate" = none) (ha : PA X [a] ta) (hs : starEach [a] X.env = [(false, eval a X.env)] := by rfl) :
    PI X (.Tuple elts x1 p0) (.Call (.Name "enumerate" p) [a] [] pos) (iEnum X.K ta) := by
  intro pins s σ H R I h
  refine Call_ (ld_blt I hg hm boot_enumerate (PyProof.Rows.callWith_type1 (thn (ha pos pins s σ H _ I h) fun us s1 ⟨vs, H1, I1, r1, q1⟩ => ?_) hs rfl))
  obtain ⟨l, rfl, ⟨xs, hx⟩, q⟩ := q1
  obtain ⟨u, rfl, ru⟩ := vals1 r1
  cases ru
  obtain ⟨ia, ra, pa, za⟩ := I1.list hx
  refine call_enumerate_list pa.isList fun h' c1 c2 c3 k => ?_
  refine wpAny_pyIter_enum (s := { s1 with heap := h' }) c1 ?_
  refine ⟨_, _, _, _, H1, rfl, I1.kept (t' := s1.toks) k, turn_enum (it := s1.heap.objs.size) (Nat.succ_ne_self _), ⟨⟨_, c1⟩, c2⟩, fun c hc => ?_, q⟩
  have ge : s1.heap.objs.size ≤ c := by
    simp only [List.mem_cons, List.not_mem_nil, or_false] at hc
    rcases hc with rfl | rfl <;> first | exact Nat.le_add_right _ _ | exact Nat.le_refl _
  exact I1.fpOk ge (I1.hok.fresh ge)
end
theorem turns_enum {K : PySem.W.Frag} {a D : Addr} {xs : List V} {g : TG} {tt : TT} {te : TE} {σ0 : St} {Qd : Hp → Prop} {H1 : Hp} (Pv : Nat → List V → St → Hp → Prop) (h0 : Pv 0 [] σ0 (upd H1 D (.lst [])))
    (hD : ∀ i ys σ H, Pv i ys σ H → H D = some (.lst ys) ∧ ys.length < sizeLine ∧ SqL K H a xs)
    (hs : ∀ i x t ys σ H, xs[i]? = some x → Pv i ys σ H → H t = none → g (.ref t) σ (upd H t (.tup [.int i, x])) fun σ2 H4 => tt σ2 H4 fun c H5 => if c = true then te σ2 H5 fun y H6 => H6 D = some (.lst ys) ∧ Nxt xs.length i Pv (ys ++ [y]) σ2 (upd H6 D (.lst (ys ++ [y]))) else Nxt xs.length i Pv ys σ2 H5)
    (hd : ∀ ys σ H, Pv xs.length ys σ H → Qd H) : tTurns (Itn K a) g tt te σ0 D Qd H1 := by
  refine ⟨fun i m ys σ H => m = xs.length - i ∧ i ≤ xs.length ∧ Pv i ys σ H, ⟨xs.length, by simp, Nat.zero_le _, h0⟩, ?_⟩
  rintro i m ys σ H ⟨rfl, hi, p⟩
  obtain ⟨d1, d2, d3⟩ := hD i ys σ H p
  refine ⟨d1, ?_⟩
  by_cases hlt : i < xs.length
  · refine .inr ⟨⟨xs, xs[i], d3, by simp [hlt]⟩, d2, ?_⟩
    rintro x H3 ⟨t, u, rfl, ht, rfl, y⟩
    exact hs i u t ys σ _ (y xs d3) p ht
  · have e : i = xs.length := by omega
    subst e
    exact .inl ⟨⟨xs, d3, Nat.le_refl _⟩, hd ys σ H p⟩
end L2

/-! ### k52: the program -/
namespace K52
open PySem L2 PyProof.Rows
def top (i : Nat) : Stmt := PySem.Challenge.pw_pairsheath_k52_no_choice_beats_prices.main.body.getD i (.Pass ⟨0, 0, 0, 0⟩)
abbrev sBoth : Stmt := top 1
abbrev sOne : Stmt := top 2
abbrev sWithin : Stmt := top 3
abbrev sCut : Stmt := top 5
abbrev sInner : Stmt := top 6
abbrev sCutSum : Stmt := top 7
abbrev sInnerSum : Stmt := top 8
abbrev sCell : Stmt := top 10
abbrev sHeavy : Stmt := top 11
abbrev sSet : Stmt := top 12
abbrev sSets : Stmt := top 13
abbrev sOrder : Stmt := top 14
abbrev sOut : Stmt := top 15
abbrev sLaw : Stmt := top 16
section
variable {P : Program} {w : World} {K : PySem.W.Frag} {mg : Str → Option Value} {base : Heap}
def jst (a b : Int) (s : List Int × Int) : Bool := !decide (V.bl (decide (a ∈ s.1)) = V.bl (decide (b ∈ s.1)))
def bth (a b : Int) (s : List Int × Int) : Bool := if decide (a ∈ s.1) = true then decide (b ∈ s.1) else false
abbrev psM : List Str := ["members", "a", "b"]
def spTwo (g : Int → Int → List Int × Int → Bool) : Sp := fun vs H Q _ => ∃ (m : Addr) (s : List Int × Int) (a b : Int), vs = [.ref m, .int a, .int b] ∧ H m = some (.lst (s.1.map V.int)) ∧ Q (.bl (g a b s)) H
theorem scBoth : FnScope psM psM (defScope sBoth) := ⟨rfl, rfl, rfl, by decide +kernel, rfl, by decide +kernel, by decide +kernel⟩
theorem scOne : FnScope psM psM (defScope sOne) := ⟨rfl, rfl, rfl, by decide +kernel, rfl, by decide +kernel, by decide +kernel⟩
theorem ok_both {f : Addr} {fd : FuncData} (F : Fun K "has_both" "has_both" sBoth f fd) : FnOk P w K mg base CX0 1 f fd psM (spTwo bth) := by
  refine F.ok scBoth (fun vs H Q E h => ?_) (fun cdv A outer s H vs Q E hr h => ?_)
  · obtain ⟨m, t, a, b, rfl, _⟩ := h
    rfl
  · obtain ⟨m, t, a, b, rfl, hm, hQ⟩ := h
    refine ⟨_, pss_one (ps_ret (pe_and (pe_cmpR op_in_seq (pv 1) (pv 0) (by with_unfolding_all rfl)) (pe_one (pe_cmpR op_in_seq (pv 2) (pv 0) (by with_unfolding_all rfl))))), ?_⟩
    refine ⟨_, rfl, _, rfl, m, _, rfl, .inl (SqL.of hm), rfl, flat_ints t.1, _, rfl, ?_⟩
    unfold bth at hQ
    rw [if_neg Bool.false_ne_true, inV_ints]
    refine ite2 (fun c => ?_) (fun c => ?_)
    · rw [if_pos c] at hQ
      refine ⟨_, rfl, _, rfl, m, _, rfl, .inl (SqL.of hm), rfl, flat_ints t.1, ?_⟩
      rw [if_neg Bool.false_ne_true, inV_ints]
      exact hQ
    · rw [if_neg c] at hQ
      exact hQ
theorem ok_one {f : Addr} {fd : FuncData} (F : Fun K "has_just_one" "has_just_one" sOne f fd) : FnOk P w K mg base CX0 1 f fd psM (spTwo jst) := by
  refine F.ok scOne (fun vs H Q E h => ?_) (fun cdv A outer s H vs Q E hr h => ?_)
  · obtain ⟨m, t, a, b, rfl, _⟩ := h
    rfl
  · obtain ⟨m, t, a, b, rfl, hm, hQ⟩ := h
    refine ⟨_, pss_one (ps_ret (pe_cmpR op_ne (pe_cmpR op_in_seq (pv 1) (pv 0) (by with_unfolding_all rfl)) (pe_cmpR op_in_seq (pv 2) (pv 0) (by with_unfolding_all rfl)) (nomark _))), ?_⟩
    refine ⟨_, rfl, _, rfl, m, _, rfl, .inl (SqL.of hm), rfl, flat_ints t.1, _, rfl, _, rfl, m, _, rfl, .inl (SqL.of hm), rfl, flat_ints t.1, rfl, ?_⟩
    rw [if_neg Bool.false_ne_true, if_neg Bool.false_ne_true, inV_ints, inV_ints]
    exact hQ
def spWithin : Sp := fun vs H Q _ => ∃ (m : Addr) (t : List Int), vs = [.ref m] ∧ H m = some (.lst (t.map V.int)) ∧ Q (.int (((t.length : Int) - 1) / 2)) H
theorem scWithin : FnScope ["members"] ["members"] (defScope sWithin) := ⟨rfl, rfl, rfl, by decide +kernel, rfl, by decide +kernel, by decide +kernel⟩
theorem ok_within {f : Addr} {fd : FuncData} (F : Fun K "most_within" "most_within" sWithin f fd) (glen : mg "len" = none) : FnOk P w K mg base CX0 1 f fd ["members"] spWithin := by
  refine F.ok scWithin (fun vs H Q E h => ?_) (fun cdv A outer s H vs Q E hr h => ?_)
  · obtain ⟨m, t, rfl, _⟩ := h
    rfl
  · obtain ⟨m, t, rfl, hm, hQ⟩ := h
    refine ⟨_, pss_one (ps_ret (pe_op op_fdiv (pe_op op_sub (pe_callB call_len_seq (by rfl) glen PySem.boot_len (pa_cons (pv 0) pa_nil)) pe_int) pe_int)), ?_⟩
    refine ⟨_, rfl, m, _, rfl, .inl (SqL.of hm), _, _, rfl, rfl, _, _, rfl, rfl, ⟨by decide, by decide⟩, ?_⟩
    rw [List.length_map]
    exact hQ
def vlC (t : List Int) (ss : List (List Int × Int)) (a b : Int) : Int := t.getD a.toNat 0 + t.getD b.toNat 0 + ((ss.filter (jst a b)).map (·.2)).sum
def spCut : Sp := fun vs H Q _ => ∃ (p : Addr) (u : Int) (t : List Int) (ss : List (List Int × Int)) (a b : Int), vs = [.ref p, .int a, .int b] ∧ PriH H p u t ss ∧ ss.length ≤ 900 ∧ 0 ≤ a ∧ a < t.length ∧ 0 ≤ b ∧ b < t.length ∧ ∀ H', Same H H' → Q (.int (vlC t ss a b)) H'
abbrev nmC : List Str := ["prices", "a", "b", "points", "cut"]
theorem scC : FnScope nmC ["prices", "a", "b"] (defScope sCut) := ⟨rfl, rfl, rfl, by decide +kernel, rfl, by decide +kernel, by decide +kernel⟩
abbrev XC (P : Program) (w : World) (K : PySem.W.Frag) (mg : Str → Option Value) (base : Heap) (f : Addr) (cdv : Value) (A : Around) (outer : List Env) (s : Shared) (H : Hp) (E : XK) : Cx := (cxOf CX0 P w K mg base nmC "cut_price" (defScope sCut) f cdv A outer s H E).nox
def compC : Scope := { kind := .function, names := [(Str.ofString ".0", .local), (Str.ofString "members", .local), (Str.ofString "price", .local), (Str.ofString "has_just_one", .globalImplicit), (Str.ofString "a", .free), (Str.ofString "b", .free)], isGenerator := false, isCoroutine := false, more := [] }
theorem nd_compC : ([".0", "members", "price", "a", "b"] : List Str).Nodup := by decide +kernel
theorem capsC {f : Addr} {cdv : Value} {A : Around} {outer : List Env} {s : Shared} {H : Hp} {E : XK} : Caps (XC P w K mg base f cdv A outer s H E) compC [(Str.ofString "b", s.heap.objs.size + 1 + 1), (Str.ofString "a", s.heap.objs.size + 1)] [".0", "members", "price"] ["a", "b"] [1, 2] := by
  have e1 : (XC P w K mg base f cdv A outer s H E).env.cells = [(Str.ofString "b", s.heap.objs.size + 1 + 1), (Str.ofString "a", s.heap.objs.size + 1)] := by rfl
  have e2 : (relabel compC (XC P w K mg base f cdv A outer s H E).env).names = [(Str.ofString ".0", .local), (Str.ofString "members", .local), (Str.ofString "price", .local), (Str.ofString "has_just_one", .globalImplicit), (Str.ofString "a", .cell), (Str.ofString "b", .cell)] := by rfl
  refine ⟨rfl, fun x c h => ?_, rfl, by decide +kernel, by decide +kernel, fun x hx => ?_, rfl, fun i x e => ?_⟩
  · have hx : (x = Str.ofString "b" ∧ c = s.heap.objs.size + 1 + 1) ∨ (x = Str.ofString "a" ∧ c = s.heap.objs.size + 1) := by
      have := PySem.mem_of_lookup h
      simpa using this
    rcases hx with ⟨rfl, rfl⟩ | ⟨rfl, rfl⟩
    · rw [e1]; rfl
    · rw [e1]; rfl
  · rw [e2] at hx
    have hx : x = Str.ofString "a" ∨ x = Str.ofString "b" := by
      rcases hx with hx | hx
      all_goals
        have := PySem.mem_of_lookup hx
        simpa using this
    rcases hx with rfl | rfl
    · exact ⟨_, rfl⟩
    · exact ⟨_, rfl⟩
  · match i, e with
    | 0, e =>
      cases (Option.some.inj e)
      exact ⟨1, rfl, rfl, rfl, rfl, by rw [e2]; rfl⟩
    | 1, e =>
      cases (Option.some.inj e)
      exact ⟨2, rfl, rfl, rfl, rfl, by rw [e2]; rfl⟩
    | n + 2, e => cases e

theorem ok_cut_price {f fO : Addr} {fd fdO : FuncData} (F : Fun K "cut_price" "cut_price" sCut f fd) (gsum : mg "sum" = none)
    (GO : FnOk P w K mg base CX0 1 fO fdO psM (spTwo jst)) (mO : mg "has_just_one" = some (.ref fO)) (kO : PySem.W.keepIn K (.ref fO) = true) (bO : Binds K fdO psM []) : FnOk P w K mg base CX0 2 f fd ["prices", "a", "b"] spCut := by
  refine F.ok scC (fun vs H Q E h => ?_) (fun cdv A outer s H vs Q E hr h => ?_)
  · obtain ⟨p, u, t, ss, a, b, rfl, _⟩ := h
    rfl
  · obtain ⟨p, u, t, ss, a, b, rfl, ⟨pp, ps, qs, hp, hpp, hps, hss⟩, hn, a0, a1, b0, b1, hQ⟩ := h
    refine' ⟨_, pss_cons ?s0 (pss_cons ?s1 (pss_one ?s2)), ?_⟩
    case s0 => exact ps_set (i := 3) scC.nd rfl (Or.inl rfl) (pe_ix ix_tup (pv 0) pe_int (fun _ _ => rfl))
    case s1 => exact ps_comp (i := 4) (g := gTup K 2 (gCons (gName 1) (gCons (gName 2) gNil))) (own := [".0", "members", "price"]) (caps := ["a", "b"]) (js := [1, 2]) rfl capsC (pi_list (pe_ix ix_tup (pv 0) pe_int (fun _ _ => rfl))) (fun pins C s H1 fp => pg_tup (n := 2) rfl (pgs_cons (pg_name (i := 1) nd_compC rfl (Or.inl rfl) (Or.inr rfl)) (pgs_cons (pg_name (i := 2) nd_compC rfl (Or.inl rfl) (Or.inr rfl)) pgs_nil))) (fun pins C s H1 fp => pts_one (pt_val (pe_call GO hr rfl mO kO bO .nil pass0 (pa_cons (pv 1) (pa_cons (pv 3) (pa_cons (pv 4) pa_nil)))))) (fun pins C s H1 fp => pv 2) scC.nd rfl rfl rfl
    case s2 => exact ps_ret (pe_op op_add (pe_op op_add (pe_ix ix_list (pv 3) (pv 1) (fun _ _ => rfl)) (pe_ix ix_list (pv 3) (pv 2) (fun _ _ => rfl))) (pe_callB (call_sumI rfl) (by rfl) gsum boot_sum (pa_cons (pv 4) pa_nil)))
    have g1 : atI [V.int u, V.ref pp, V.ref ps] 1 = some (.ref pp) := rfl
    have g2 : atI [V.int u, V.ref pp, V.ref ps] 2 = some (.ref ps) := rfl
    refine ⟨_, rfl, p, _, _, _, rfl, rfl, SqT.of hp, g1, ?_⟩
    refine ⟨_, rfl, p, _, _, _, rfl, rfl, SqT.of hp, g2, ps, rfl, ⟨_, SqL.of hps⟩, fun D hD => ?_⟩
    refine turns_sets (K := K) (cs := [some (.int a), some (.int b)]) (jst a b) (·.2) hps hss hn hD (fun z hz m e0 H4 κ s4 hm k => ?_) (fun z hz _ m e0 H4 κ s4 hm k => ?_) (fun H5 s5 h5 => ?_)
    · exact ⟨_, rfl, _, rfl, _, rfl, m, z, a, b, rfl, hm, _, rfl, k H4 (Same.refl _)⟩
    · exact ⟨_, rfl, k H4 (Same.refl _)⟩
    · have ga : atI (t.map V.int) a = some (.int (t.getD a.toNat 0)) := atI_get' (by omega) (by omega)
      have gb : atI (t.map V.int) b = some (.int (t.getD b.toNat 0)) := atI_get' (by omega) (by omega)
      refine ⟨_, rfl, _, rfl, pp, _, _, _, rfl, rfl, SqL.of (s5 pp _ hpp), ga, _, rfl, _, rfl, pp, _, _, _, rfl, rfl, SqL.of (s5 pp _ hpp), gb, _, _, rfl, rfl, _, rfl, D, _, rfl, SqL.of h5, _, _, rfl, rfl, ?_⟩
      exact hQ H5 s5
def vlI (t : List Int) (ss : List (List Int × Int)) (a b : Int) : Int := t.getD a.toNat 0 + t.getD b.toNat 0 + ((ss.filter (bth a b)).map (·.2)).sum
def spInner : Sp := fun vs H Q _ => ∃ (p : Addr) (u : Int) (t : List Int) (ss : List (List Int × Int)) (a b : Int), vs = [.ref p, .int a, .int b] ∧ PriH H p u t ss ∧ ss.length ≤ 900 ∧ 0 ≤ a ∧ a < t.length ∧ 0 ≤ b ∧ b < t.length ∧ ∀ H', Same H H' → Q (.int (vlI t ss a b)) H'
abbrev nmI : List Str := ["prices", "a", "b", "points", "inner"]
theorem scI : FnScope nmI ["prices", "a", "b"] (defScope sInner) := ⟨rfl, rfl, rfl, by decide +kernel, rfl, by decide +kernel, by decide +kernel⟩
abbrev XI (P : Program) (w : World) (K : PySem.W.Frag) (mg : Str → Option Value) (base : Heap) (f : Addr) (cdv : Value) (A : Around) (outer : List Env) (s : Shared) (H : Hp) (E : XK) : Cx := (cxOf CX0 P w K mg base nmI "inner_price" (defScope sInner) f cdv A outer s H E).nox
def compI : Scope := { kind := .function, names := [(Str.ofString ".0", .local), (Str.ofString "members", .local), (Str.ofString "price", .local), (Str.ofString "has_both", .globalImplicit), (Str.ofString "a", .free), (Str.ofString "b", .free)], isGenerator := false, isCoroutine := false, more := [] }
theorem nd_compI : ([".0", "members", "price", "a", "b"] : List Str).Nodup := by decide +kernel
theorem capsI {f : Addr} {cdv : Value} {A : Around} {outer : List Env} {s : Shared} {H : Hp} {E : XK} : Caps (XI P w K mg base f cdv A outer s H E) compI [(Str.ofString "b", s.heap.objs.size + 1 + 1), (Str.ofString "a", s.heap.objs.size + 1)] [".0", "members", "price"] ["a", "b"] [1, 2] := by
  have e1 : (XI P w K mg base f cdv A outer s H E).env.cells = [(Str.ofString "b", s.heap.objs.size + 1 + 1), (Str.ofString "a", s.heap.objs.size + 1)] := by rfl
  have e2 : (relabel compI (XI P w K mg base f cdv A outer s H E).env).names = [(Str.ofString ".0", .local), (Str.ofString "members", .local), (Str.ofString "price", .local), (Str.ofString "has_both", .globalImplicit), (Str.ofString "a", .cell), (Str.ofString "b", .cell)] := by rfl
  refine ⟨rfl, fun x c h => ?_, rfl, by decide +kernel, by decide +kernel, fun x hx => ?_, rfl, fun i x e => ?_⟩
  · have hx : (x = Str.ofString "b" ∧ c = s.heap.objs.size + 1 + 1) ∨ (x = Str.ofString "a" ∧ c = s.heap.objs.size + 1) := by
      have := PySem.mem_of_lookup h
      simpa using this
    rcases hx with ⟨rfl, rfl⟩ | ⟨rfl, rfl⟩
    · rw [e1]; rfl
    · rw [e1]; rfl
  · rw [e2] at hx
    have hx : x = Str.ofString "a" ∨ x = Str.ofString "b" := by
      rcases hx with hx | hx
      all_goals
        have := PySem.mem_of_lookup hx
        simpa using this
    rcases hx with rfl | rfl
    · exact ⟨_, rfl⟩
    · exact ⟨_, rfl⟩
  · match i, e with
    | 0, e =>
      cases (Option.some.inj e)
      exact ⟨1, rfl, rfl, rfl, rfl, by rw [e2]; rfl⟩
    | 1, e =>
      cases (Option.some.inj e)
      exact ⟨2, rfl, rfl, rfl, rfl, by rw [e2]; rfl⟩
    | n + 2, e => cases e

theorem ok_inner_price {f fO : Addr} {fd fdO : FuncData} (F : Fun K "inner_price" "inner_price" sInner f fd) (gsum : mg "sum" = none)
    (GO : FnOk P w K mg base CX0 1 fO fdO psM (spTwo bth)) (mO : mg "has_both" = some (.ref fO)) (kO : PySem.W.keepIn K (.ref fO) = true) (bO : Binds K fdO psM []) : FnOk P w K mg base CX0 2 f fd ["prices", "a", "b"] spInner := by
  refine F.ok scI (fun vs H Q E h => ?_) (fun cdv A outer s H vs Q E hr h => ?_)
  · obtain ⟨p, u, t, ss, a, b, rfl, _⟩ := h
    rfl
  · obtain ⟨p, u, t, ss, a, b, rfl, ⟨pp, ps, qs, hp, hpp, hps, hss⟩, hn, a0, a1, b0, b1, hQ⟩ := h
    refine' ⟨_, pss_cons ?s0 (pss_cons ?s1 (pss_one ?s2)), ?_⟩
    case s0 => exact ps_set (i := 3) scI.nd rfl (Or.inl rfl) (pe_ix ix_tup (pv 0) pe_int (fun _ _ => rfl))
    case s1 => exact ps_comp (i := 4) (g := gTup K 2 (gCons (gName 1) (gCons (gName 2) gNil))) (own := [".0", "members", "price"]) (caps := ["a", "b"]) (js := [1, 2]) rfl capsI (pi_list (pe_ix ix_tup (pv 0) pe_int (fun _ _ => rfl))) (fun pins C s H1 fp => pg_tup (n := 2) rfl (pgs_cons (pg_name (i := 1) nd_compI rfl (Or.inl rfl) (Or.inr rfl)) (pgs_cons (pg_name (i := 2) nd_compI rfl (Or.inl rfl) (Or.inr rfl)) pgs_nil))) (fun pins C s H1 fp => pts_one (pt_val (pe_call GO hr rfl mO kO bO .nil pass0 (pa_cons (pv 1) (pa_cons (pv 3) (pa_cons (pv 4) pa_nil)))))) (fun pins C s H1 fp => pv 2) scI.nd rfl rfl rfl
    case s2 => exact ps_ret (pe_op op_add (pe_op op_add (pe_ix ix_list (pv 3) (pv 1) (fun _ _ => rfl)) (pe_ix ix_list (pv 3) (pv 2) (fun _ _ => rfl))) (pe_callB (call_sumI rfl) (by rfl) gsum boot_sum (pa_cons (pv 4) pa_nil)))
    have g1 : atI [V.int u, V.ref pp, V.ref ps] 1 = some (.ref pp) := rfl
    have g2 : atI [V.int u, V.ref pp, V.ref ps] 2 = some (.ref ps) := rfl
    refine ⟨_, rfl, p, _, _, _, rfl, rfl, SqT.of hp, g1, ?_⟩
    refine ⟨_, rfl, p, _, _, _, rfl, rfl, SqT.of hp, g2, ps, rfl, ⟨_, SqL.of hps⟩, fun D hD => ?_⟩
    refine turns_sets (K := K) (cs := [some (.int a), some (.int b)]) (bth a b) (·.2) hps hss hn hD (fun z hz m e0 H4 κ s4 hm k => ?_) (fun z hz _ m e0 H4 κ s4 hm k => ?_) (fun H5 s5 h5 => ?_)
    · exact ⟨_, rfl, _, rfl, _, rfl, m, z, a, b, rfl, hm, _, rfl, k H4 (Same.refl _)⟩
    · exact ⟨_, rfl, k H4 (Same.refl _)⟩
    · have ga : atI (t.map V.int) a = some (.int (t.getD a.toNat 0)) := atI_get' (by omega) (by omega)
      have gb : atI (t.map V.int) b = some (.int (t.getD b.toNat 0)) := atI_get' (by omega) (by omega)
      refine ⟨_, rfl, _, rfl, pp, _, _, _, rfl, rfl, SqL.of (s5 pp _ hpp), ga, _, rfl, _, rfl, pp, _, _, _, rfl, rfl, SqL.of (s5 pp _ hpp), gb, _, _, rfl, rfl, _, rfl, D, _, rfl, SqL.of h5, _, _, rfl, rfl, ?_⟩
      exact hQ H5 s5
end
end K52

/-! ### k52: sums, the small ones of the law -/
namespace K52
open PySem L2 PyProof.Rows
section
variable {P : Program} {w : World} {K : PySem.W.Frag} {mg : Str → Option Value} {base : Heap}
theorem nd_own3 : ([".0", "members", "price"] : List Str).Nodup := by decide +kernel
def room (s : List Int × Int) : Int := s.2 * (((s.1.length : Int) - 1) / 2)
def vlCS (t : List Int) (ss : List (List Int × Int)) : Int := t.sum + (ss.map (·.2)).sum
def vlIS (t : List Int) (ss : List (List Int × Int)) : Int := t.sum + (ss.map room).sum
def spSum (v : List Int → List (List Int × Int) → Int) : Sp := fun vs H Q _ => ∃ (p : Addr) (u : Int) (t : List Int) (ss : List (List Int × Int)), vs = [.ref p] ∧ PriH H p u t ss ∧ ss.length ≤ 900 ∧ (∀ s ∈ ss, s.1.length ≤ 900) ∧ ∀ H', Same H H' → Q (.int (v t ss)) H'

theorem scCS : FnScope ["prices"] ["prices"] (defScope sCutSum) := ⟨rfl, rfl, rfl, by decide +kernel, rfl, by decide +kernel, by decide +kernel⟩
theorem ok_cut_sum {f : Addr} {fd : FuncData} (F : Fun K "cut_sum" "cut_sum" sCutSum f fd) (gsum : mg "sum" = none) : FnOk P w K mg base CX0 2 f fd ["prices"] (spSum vlCS) := by
  refine F.ok scCS (fun vs H Q E h => ?_) (fun cdv A outer s H vs Q E hr h => ?_)
  · obtain ⟨p, u, t, ss, rfl, _⟩ := h
    rfl
  · obtain ⟨p, u, t, ss, rfl, ⟨pp, ps, qs, hp, hpp, hps, hss⟩, hn, hb, hQ⟩ := h
    refine' ⟨_, pss_one (ps_ret (pe_op op_add (pe_callB (call_sumI rfl) (by rfl) gsum boot_sum (pa_cons (pe_ix ix_tup (pv 0) pe_int (fun _ _ => rfl)) pa_nil)) (pe_callB (call_sumI rfl) (by rfl) gsum boot_sum (pa_cons ?cc pa_nil)))), ?_⟩
    case cc => exact pe_comp (g := gTup K 2 (gCons (gName 1) (gCons (gName 2) gNil))) (own := [".0", "members", "price"]) (cl := []) (caps := []) (js := []) rfl (caps0 rfl rfl (by decide +kernel) (by decide +kernel)) (pi_list (pe_ix ix_tup (pv 0) pe_int (fun _ _ => rfl))) (fun pins C s H1 fp => pg_tup (n := 2) rfl (pgs_cons (pg_name (i := 1) nd_own3 rfl (Or.inl rfl) (Or.inr rfl)) (pgs_cons (pg_name (i := 2) nd_own3 rfl (Or.inl rfl) (Or.inr rfl)) pgs_nil))) (fun pins C s H1 fp => pts_nil) (fun pins C s H1 fp => pv 2)
    have g1 : atI [V.int u, V.ref pp, V.ref ps] 1 = some (.ref pp) := rfl
    have g2 : atI [V.int u, V.ref pp, V.ref ps] 2 = some (.ref ps) := rfl
    refine ⟨_, rfl, p, _, _, _, rfl, rfl, SqT.of hp, g1, pp, t, rfl, SqL.of hpp, ?_⟩
    refine ⟨_, rfl, p, _, _, _, rfl, rfl, SqT.of hp, g2, ps, rfl, ⟨_, SqL.of hps⟩, fun D hD => ?_⟩
    refine turns_sets (K := K) (cs := []) (fun _ => true) (·.2) hps hss hn hD (fun z hz m e0 H4 κ s4 hm k => k H4 (Same.refl _)) (fun z hz _ m e0 H4 κ s4 hm k => ?_) (fun H5 s5 h5 => ?_)
    · exact ⟨_, rfl, k H4 (Same.refl _)⟩
    · refine ⟨D, _, rfl, SqL.of h5, _, _, rfl, rfl, ?_⟩
      rw [List.filter_eq_self.mpr fun _ _ => rfl]
      exact hQ H5 s5
theorem scIS : FnScope ["prices"] ["prices"] (defScope sInnerSum) := ⟨rfl, rfl, rfl, by decide +kernel, rfl, by decide +kernel, by decide +kernel⟩
theorem ok_inner_sum {f : Addr} {fd : FuncData} {fO : Addr} {fdO : FuncData} (F : Fun K "inner_sum" "inner_sum" sInnerSum f fd) (gsum : mg "sum" = none)
    (GO : FnOk P w K mg base CX0 1 fO fdO ["members"] spWithin) (mO : mg "most_within" = some (.ref fO)) (kO : PySem.W.keepIn K (.ref fO) = true) (bO : Binds K fdO ["members"] []) : FnOk P w K mg base CX0 2 f fd ["prices"] (spSum vlIS) := by
  refine F.ok scIS (fun vs H Q E h => ?_) (fun cdv A outer s H vs Q E hr h => ?_)
  · obtain ⟨p, u, t, ss, rfl, _⟩ := h
    rfl
  · obtain ⟨p, u, t, ss, rfl, ⟨pp, ps, qs, hp, hpp, hps, hss⟩, hn, hb, hQ⟩ := h
    refine' ⟨_, pss_one (ps_ret (pe_op op_add (pe_callB (call_sumI rfl) (by rfl) gsum boot_sum (pa_cons (pe_ix ix_tup (pv 0) pe_int (fun _ _ => rfl)) pa_nil)) (pe_callB (call_sumI rfl) (by rfl) gsum boot_sum (pa_cons ?cc pa_nil)))), ?_⟩
    case cc => exact pe_comp (g := gTup K 2 (gCons (gName 1) (gCons (gName 2) gNil))) (own := [".0", "members", "price"]) (cl := []) (caps := []) (js := []) rfl (caps0 rfl rfl (by decide +kernel) (by decide +kernel)) (pi_list (pe_ix ix_tup (pv 0) pe_int (fun _ _ => rfl))) (fun pins C s H1 fp => pg_tup (n := 2) rfl (pgs_cons (pg_name (i := 1) nd_own3 rfl (Or.inl rfl) (Or.inr rfl)) (pgs_cons (pg_name (i := 2) nd_own3 rfl (Or.inl rfl) (Or.inr rfl)) pgs_nil))) (fun pins C s H1 fp => pts_nil) (fun pins C s H1 fp => pe_op op_mul (pv 2) (pe_call GO hr rfl mO kO bO .nil pass0 (pa_cons (pv 1) pa_nil)))
    have g1 : atI [V.int u, V.ref pp, V.ref ps] 1 = some (.ref pp) := rfl
    have g2 : atI [V.int u, V.ref pp, V.ref ps] 2 = some (.ref ps) := rfl
    refine ⟨_, rfl, p, _, _, _, rfl, rfl, SqT.of hp, g1, pp, t, rfl, SqL.of hpp, ?_⟩
    refine ⟨_, rfl, p, _, _, _, rfl, rfl, SqT.of hp, g2, ps, rfl, ⟨_, SqL.of hps⟩, fun D hD => ?_⟩
    refine turns_sets (K := K) (cs := []) (fun _ => true) room hps hss hn hD (fun z hz m e0 H4 κ s4 hm k => k H4 (Same.refl _)) (fun z hz _ m e0 H4 κ s4 hm k => ?_) (fun H5 s5 h5 => ?_)
    · exact ⟨_, rfl, _, rfl, m, z.1, rfl, hm, _, _, rfl, rfl, .inr (by have := hb z hz; constructor <;> omega), k H4 (Same.refl _)⟩
    · refine ⟨D, _, rfl, SqL.of h5, _, _, rfl, rfl, ?_⟩
      rw [List.filter_eq_self.mpr fun _ _ => rfl]
      exact hQ H5 s5
def spCell (K : PySem.W.Frag) : Sp := fun vs H Q _ => ∃ (a : Addr) (ns : List Int) (k : Int), vs = [.ref a, .int k] ∧ 0 ≤ k ∧ SqL K H a (ns.map V.int) ∧ ∀ n : Int, Q (.int n) H
theorem scCell : FnScope ["_law_script", "_law_k"] ["_law_script", "_law_k"] (defScope sCell) := ⟨rfl, rfl, rfl, by decide +kernel, rfl, by decide +kernel, by decide +kernel⟩
theorem ok_cell {f : Addr} {fd : FuncData} (F : Fun K "_law_cell_at" "_law_cell_at" sCell f fd) (glen : mg "len" = none) : FnOk P w K mg base CX0 1 f fd ["_law_script", "_law_k"] (spCell K) := by
  refine F.ok scCell (fun vs H Q E h => ?_) (fun cdv A outer s H vs Q E hr h => ?_)
  · obtain ⟨a, ns, k, rfl, _⟩ := h
    rfl
  · obtain ⟨a, ns, k, rfl, k0, hS, hQ⟩ := h
    refine ⟨_, pss_cons (ps_if (pt_cmpR op_lt (pv 1) (pe_callB call_len_seq (by rfl) glen PySem.boot_len (pa_cons (pv 0) pa_nil)) (nomark _)) (pss_one (ps_ret (pe_ix ix_list (pv 0) (pv 1) (fun _ _ => rfl)))) pss_nil) (pss_one (ps_ret pe_int)), ?_⟩
    refine ⟨_, rfl, _, rfl, a, _, rfl, .inl hS, _, _, rfl, rfl, _, rfl, ?_⟩
    refine ite2 (fun c => ?_) (fun c => hQ 0)
    have c := of_decide_eq_true c
    rw [List.length_map] at c
    obtain ⟨v, _, hv⟩ := pick2 (xs := ns) k0 c
    exact ⟨_, rfl, _, rfl, a, _, _, V.int v, rfl, rfl, hS, hv, hQ _⟩

def spHeavy : Sp := fun vs H Q _ => ∃ c : Int, vs = [.int c] ∧ ∀ n : Int, Q (.int n) H
theorem scHeavy : FnScope ["_law_cell"] ["_law_cell"] (defScope sHeavy) := ⟨rfl, rfl, rfl, by decide +kernel, rfl, by decide +kernel, by decide +kernel⟩
theorem ok_heavy {f : Addr} {fd : FuncData} (F : Fun K "_law_heavy" "_law_heavy" sHeavy f fd) : FnOk P w K mg base CX0 1 f fd ["_law_cell"] spHeavy := by
  refine F.ok scHeavy (fun vs H Q E h => ?_) (fun cdv A outer s H vs Q E hr h => ?_)
  · obtain ⟨c, rfl, _⟩ := h
    rfl
  · obtain ⟨c, rfl, hQ⟩ := h
    refine ⟨_, pss_cons (ps_if (pt_cmpR op_eq (pe_op op_mod (pv 0) pe_int) pe_int (nomark _)) (pss_one (ps_ret (pe_op op_sub (pe_op op_mod (pe_op op_fdiv (pv 0) pe_int) pe_int) pe_int))) pss_nil)
      (pss_one (ps_ret (pe_op op_add (pe_op op_sub (pe_op op_mod (pe_op op_fdiv (pv 0) pe_int) (pe_op op_sub (pe_op op_mul pe_int (pe_op op_pow pe_int pe_int)) pe_int)) (pe_op op_pow pe_int pe_int)) pe_int))), ?_⟩
    refine ⟨_, rfl, _, _, rfl, rfl, (by show (0 : Int) < 2; decide), rfl, _, rfl, ?_⟩
    refine ite2 (fun _ => ?_) (fun _ => ?_)
    · exact ⟨_, rfl, _, _, rfl, rfl, ⟨by decide, by decide⟩, _, _, rfl, rfl, (by show (0 : Int) < 41; decide), _, _, rfl, rfl, hQ _⟩
    · exact ⟨_, rfl, _, _, rfl, rfl, ⟨by decide, by decide⟩, _, _, rfl, rfl, ⟨by decide, by decide, by decide⟩, _, _, rfl, rfl, .inl ⟨by decide, by decide⟩, _, _, rfl, rfl, _, _, rfl, rfl, (by show (0 : Int) < 2 * 10 ^ (60 : Int).toNat - 1; decide), _, _, rfl, rfl, ⟨by decide, by decide, by decide⟩, _, _, rfl, rfl, _, _, rfl, rfl, hQ _⟩
def spSet : Sp := fun vs H Q _ => ∃ c n : Int, vs = [.int c, .int n] ∧ 0 ≤ n ∧ n ≤ 13 ∧ ∀ (l : Addr) (t : List Int) (H' : Hp), H l = none → Same H H' → H' l = some (.lst (t.map V.int)) → GoodT n.toNat t → Q (.ref l) H'
abbrev nmS : List Str := ["_law_cell", "_law_many", "_law_some"]
theorem scSet : FnScope nmS ["_law_cell", "_law_many"] (defScope sSet) := ⟨rfl, rfl, rfl, by decide +kernel, rfl, by decide +kernel, by decide +kernel⟩
abbrev XS (P : Program) (w : World) (K : PySem.W.Frag) (mg : Str → Option Value) (base : Heap) (f : Addr) (cdv : Value) (A : Around) (outer : List Env) (s : Shared) (H : Hp) (E : XK) : Cx := (cxOf CX0 P w K mg base nmS "_law_set" (defScope sSet) f cdv A outer s H E).nox
def compS : Scope := { kind := .function, names := [(Str.ofString ".0", .local), (Str.ofString "_law_a", .local), (Str.ofString "_law_cell", .free)], isGenerator := false, isCoroutine := false, more := [] }
theorem nd_compS : ([".0", "_law_a", "_law_cell"] : List Str).Nodup := by decide +kernel
theorem capsS {f : Addr} {cdv : Value} {A : Around} {outer : List Env} {s : Shared} {H : Hp} {E : XK} : Caps (XS P w K mg base f cdv A outer s H E) compS [(Str.ofString "_law_cell", s.heap.objs.size + 1)] [".0", "_law_a"] ["_law_cell"] [0] := by
  have e1 : (XS P w K mg base f cdv A outer s H E).env.cells = [(Str.ofString "_law_cell", s.heap.objs.size + 1)] := by rfl
  have e2 : (relabel compS (XS P w K mg base f cdv A outer s H E).env).names = [(Str.ofString ".0", .local), (Str.ofString "_law_a", .local), (Str.ofString "_law_cell", .cell)] := by rfl
  refine ⟨rfl, fun x c h => ?_, rfl, by decide +kernel, by decide +kernel, fun x hx => ?_, rfl, fun i x e => ?_⟩
  · have hx : (x = Str.ofString "_law_cell" ∧ c = s.heap.objs.size + 1) := by
      have := PySem.mem_of_lookup h
      simpa using this
    obtain ⟨rfl, rfl⟩ := hx
    rw [e1]; rfl
  · rw [e2] at hx
    have hx : x = Str.ofString "_law_cell" := by
      rcases hx with hx | hx
      all_goals
        have := PySem.mem_of_lookup hx
        simpa using this
    subst hx
    exact ⟨_, rfl⟩
  · match i, e with
    | 0, e =>
      cases (Option.some.inj e)
      exact ⟨0, rfl, rfl, rfl, rfl, by rw [e2]; rfl⟩
    | n + 1, e => cases e

theorem ok_set {f : Addr} {fd : FuncData} (F : Fun K "_law_set" "_law_set" sSet f fd) (grange : mg "range" = none) (glen : mg "len" = none) : FnOk P w K mg base CX0 1 f fd ["_law_cell", "_law_many"] spSet := by
  refine F.ok scSet (fun vs H Q E h => ?_) (fun cdv A outer s H vs Q E hr h => ?_)
  · obtain ⟨c, n, rfl, _⟩ := h
    rfl
  · obtain ⟨c, n, rfl, n0, n1, hQ⟩ := h
    refine' ⟨_, pss_cons ?s0 (pss_cons ?s1 (pss_one ?s2)), ?_⟩
    case s0 => exact ps_comp (i := 2) (g := gName 1) (own := [".0", "_law_a"]) (caps := ["_law_cell"]) (js := [0]) rfl capsS (pi_range1 rfl grange (pa_cons (pv 1) pa_nil)) (fun pins C s H1 fp => pg_name (i := 1) nd_compS rfl (Or.inl rfl) (Or.inr rfl)) (fun pins C s H1 fp => pts_one (pt_cmpR op_eq (pe_op op_and (pe_op op_shr (pe_op op_mod (pv 2) pe_int) (pv 1)) pe_int) pe_int (nomark _))) (fun pins C s H1 fp => pv 1) scSet.nd rfl rfl rfl
    case s1 => exact ps_if (pt_cmpR op_eq (pe_op op_mod (pe_callB call_len_seq (by rfl) glen PySem.boot_len (pa_cons (pv 2) pa_nil)) pe_int) pe_int (nomark _)) (pss_one (ps_ret (pe_slice sl_list (pv 2) po_none (po_some (pe_un un_neg pe_int))))) pss_nil
    case s2 => exact ps_ret (pv 2)
    refine ⟨_, rfl, n, rfl, by omega, by omega, fun D hD => ?_⟩
    refine turns_range (lo := 0) (n := n.toNat) (fun i ys σ H5 => ∃ (t : List Int) (e0 e1 : Option V), ys = t.map V.int ∧ t.Sublist (upto i) ∧ i ≤ n.toNat ∧ σ = [e0, e1, some (.int c)] ∧ Same H H5 ∧ H5 D = some (.lst ys)) ⟨[], none, none, rfl, List.nil_sublist _, Nat.zero_le _, rfl, Same.new' hD, upd_same⟩ ?_ ?_ ?_
    · rintro i ys σ H5 ⟨t, e0, e1, rfl, ht, li, rfl, s5, h5⟩
      refine ⟨h5, small1000 ?_⟩
      have := ht.length_le
      rw [upto_len] at this
      rw [List.length_map]
      omega
    · rintro i ys σ H5 hi ⟨t, e0, e1, rfl, ht, li, rfl, s5, h5⟩
      unfold gName
      dsimp only
      refine ⟨_, rfl, _, _, rfl, rfl, (by show (0 : Int) < 4096; decide), _, rfl, _, _, rfl, rfl, (by show (0 : Int) ≤ 0 + (i : Int); omega), _, _, rfl, rfl, rfl, _, rfl, ?_⟩
      refine ite2 (fun _ => ?_) (fun _ => ?_)
      · refine ⟨_, rfl, h5, Nxt.mk hi ⟨t ++ [(i : Int)], _, _, by rw [List.map_append, Int.zero_add]; rfl, ?_, hi, rfl, fun b o e => ?_, upd_same⟩⟩
        · rw [upto_succ]
          exact ht.append (List.Sublist.refl _)
        · rw [upd_ne (ne_of_none e hD)]; exact s5 b o e
      · refine Nxt.mk hi ⟨t, _, _, rfl, ?_, hi, rfl, s5, h5⟩
        rw [upto_succ]
        exact ht.trans (List.sublist_append_left _ _)
    · rintro ys σ0 H5 ⟨t, e0, e1, rfl, ht, li, rfl, s5, h5⟩
      refine ⟨_, rfl, D, _, rfl, .inl (SqL.of h5), _, _, rfl, rfl, (by show (0 : Int) < 2; decide), rfl, _, rfl, ?_⟩
      refine ite2 (fun q => ?_) (fun q => ?_)
      · refine ⟨_, rfl, _, rfl, _, rfl, D, _, rfl, SqL.of h5, fun l hl => ?_⟩
        have s6 : Same H5 (upd H5 l (.lst (cutV (t.map V.int) none (some (-1))))) := Same.new' hl
        refine hQ l (t.take (t.length - 1)) _ (s5.free hl) (s5.trans s6) ?_ ⟨(List.take_sublist _ _).trans ht, ?_⟩
        · rw [upd_same, cut_map, cutA_last]
        · have q := of_decide_eq_true q
          injection q with q
          rw [List.length_map] at q
          rw [List.length_take]
          by_cases z : t.length = 0
          · left
            rw [List.length_eq_zero_iff.mp z]
            rfl
          · right
            omega
      · refine ⟨_, rfl, hQ D t H5 hD s5 h5 ⟨ht, .inr ?_⟩⟩
        have q : ¬ V.int _ = V.int _ := fun z => q (decide_eq_true z)
        have q : ¬ ((((t.map V.int).length : Nat) : Int) % 2 = 0) := fun z => q (congrArg V.int z)
        rw [List.length_map] at q
        omega
end
end K52

/-! ### k52: the sets -/
namespace K52
open PySem L2 PyProof.Rows
section
variable {P : Program} {w : World} {K : PySem.W.Frag} {mg : Str → Option Value} {base : Heap}
/-- a set that is told: three points or more, a price above nought -/
def Told (n : Nat) (s : List Int × Int) : Prop := GoodT n s.1 ∧ 3 ≤ s.1.length ∧ 0 < s.2
theorem Told.ne {n : Nat} {s : List Int × Int} (h : Told n s) : s.1 ≠ [] := fun z => by
  have := h.2.1
  rw [z] at this
  exact absurd this (by decide)
def spSets (K : PySem.W.Frag) : Sp := fun vs H Q _ => ∃ (a : Addr) (n : Int) (ns : List Int), vs = [.ref a, .int n] ∧ SqL K H a (ns.map V.int) ∧ ns.length ≤ 63 ∧ 0 ≤ n ∧ n ≤ 13 ∧
  ∀ (l : Addr) (qs : List Addr) (ss : List (List Int × Int)) (H' : Hp), H l = none → Same H H' → H' l = some (.lst (qs.map V.ref)) → SetsH H' qs ss → (∀ s ∈ ss, Told n.toNat s) → ss.length ≤ 63 → Q (.ref l) H'
abbrev nmZ : List Str := ["_law_script", "_law_many", "_law_found", "_law_seen", "_law_cell", "_law_some"]
theorem scSets : FnScope nmZ ["_law_script", "_law_many"] (defScope sSets) := ⟨rfl, rfl, rfl, by decide +kernel, rfl, by decide +kernel, by decide +kernel⟩
theorem tenp : (0 : Int) < 10 ^ (60 : Int).toNat := by decide
theorem ok_sets {f fO : Addr} {fd fdO : FuncData} (F : Fun K "_law_sets" "_law_sets" sSets f fd) (glen : mg "len" = none)
    (GO : FnOk P w K mg base CX0 1 fO fdO ["_law_cell", "_law_many"] spSet) (mO : mg "_law_set" = some (.ref fO)) (kO : PySem.W.keepIn K (.ref fO) = true) (bO : Binds K fdO ["_law_cell", "_law_many"] []) : FnOk P w K mg base CX0 2 f fd ["_law_script", "_law_many"] (spSets K) := by
  refine F.ok scSets (fun vs H Q E h => ?_) (fun cdv A outer s H vs Q E hr h => ?_)
  · obtain ⟨a, n, ns, rfl, _⟩ := h
    rfl
  · obtain ⟨a, n, ns, rfl, hS, hns, n0, n1, hQ⟩ := h
    have hu := hu_of hr
    refine' ⟨_, pss_cons ?s0 (pss_cons ?s1 (pss_cons ?s2 (pss_one ?s3))), ?_⟩
    case s0 => exact ps_set (i := 2) scSets.nd rfl (Or.inl rfl) (pe_lst pa_nil)
    case s1 => exact ps_set (i := 3) scSets.nd rfl (Or.inl rfl) (pe_lst pa_nil)
    case s2 =>
      refine' ps_for PassesOwn.never rfl (pi_list (pe_slice sl_list (pv 0) (po_some pe_int) (po_some pe_int))) (pg_name (i := 4) scSets.nd rfl (Or.inl rfl)) (pss_cons ?b0 (pss_one ?b1))
      case b0 => exact ps_set (i := 5) scSets.nd rfl (Or.inl rfl) (pe_call GO hr rfl mO kO bO .nil pass0 (pa_cons (pe_op op_fdiv (pv 4) pe_int) (pa_cons (pv 1) pa_nil)))
      case b1 =>
        refine' ps_if (pw_and (pt_cmpR op_gt (pe_callB call_len_seq (by rfl) glen PySem.boot_len (pa_cons (pv 5) pa_nil)) pe_int (nomark _)) (pw_and1 (pt_cmpR (op_notInLL hu) (pv 5) (pv 3) (by with_unfolding_all rfl)))).pt (pss_cons ?c0 (pss_one ?c1)) pss_nil
        case c0 => exact ps_expr (pe_bm PySem.F.plainAttrs_list PySem.F.slot_list_append PySem.F.type_list_append mt_append (pv 3) (pa_cons (pv 5) pa_nil))
        case c1 => exact ps_expr (pe_bm PySem.F.plainAttrs_list PySem.F.slot_list_append PySem.F.type_list_append mt_append (pv 2) (pa_cons (pe_tup (pa_cons (pv 5) (pa_cons (pe_op op_add pe_int (pe_op op_mod (pv 4) (pe_op op_pow pe_int pe_int))) pa_nil))) pa_nil))
    case s3 => exact ps_ret (pv 2)
    refine ⟨Nat.zero_le _, fun lf hf => ⟨Nat.zero_le _, fun ls hl => ?_⟩⟩
    have s1 : Same H (upd H lf (.lst [])) := Same.new' hf
    have s2 := s1.trans (Same.new' (o := .lst []) hl)
    have hlH : H ls = none := s1.free hl
    have nls : lf ≠ ls := ne_of_none (o := .lst []) upd_same hl
    refine ⟨_, rfl, _, rfl, _, rfl, a, _, rfl, s2.seq hS, fun sc hsc => ?_⟩
    have hf2 : upd (upd H lf (.lst [])) ls (.lst []) lf = some (.lst []) := by rw [upd_ne nls]; exact upd_same
    have hl2 : upd (upd H lf (.lst [])) ls (.lst []) ls = some (.lst []) := upd_same
    generalize upd (upd H lf (.lst [])) ls (.lst []) = H2 at s2 hf2 hl2 hsc ⊢
    have s3 : Same H2 (upd H2 sc (.lst (cutV (ns.map V.int) (some 14) (some 63)))) := Same.new' hsc
    rw [cut_map] at s3 ⊢
    have lc : (cutA ns (some 14) (some 63)).length ≤ 63 := by
      unfold cutA
      rw [List.length_take, List.length_drop]
      omega
    generalize cutA ns (some 14) (some 63) = cs at s3 lc ⊢
    have hsc3 : upd H2 sc (.lst (cs.map V.int)) sc = some (.lst (cs.map V.int)) := upd_same
    have nf : sc ≠ lf := fun z => by rw [z, hf2] at hsc; cases hsc
    have nl : sc ≠ ls := fun z => by rw [z, hl2] at hsc; cases hsc
    have s03 := s2.trans s3
    have hf3 := s3 lf _ hf2
    have hl3 := s3 ls _ hl2
    generalize upd H2 sc (.lst (cs.map V.int)) = H3 at s3 hsc3 s03 hf3 hl3 ⊢
    refine ⟨sc, rfl, ⟨_, SqL.of hsc3⟩, for_list (K := K) (a := sc) (xs := cs.map V.int)
      (fun i σ H4 => ∃ (qs rs : List Addr) (ss : List (List Int × Int)) (ts : List (List Int)) (e4 e5 : Option V), σ = [some (.ref a), some (.int n), some (.ref lf), some (.ref ls), e4, e5] ∧ Same H H4 ∧ H4 sc = some (.lst (cs.map V.int)) ∧ H4 lf = some (.lst (qs.map V.ref)) ∧ H4 ls = some (.lst (rs.map V.ref)) ∧
        SetsH H4 qs ss ∧ LsH H4 rs ts ∧ (∀ s ∈ ss, Told n.toNat s) ∧ (∀ t ∈ ts, t ≠ []) ∧ qs.length ≤ i ∧ rs.length ≤ i)
      ⟨[], [], [], [], none, none, rfl, s03, hsc3, hf3, hl3, .nil, .nil, (by simp), (by simp), Nat.le_refl _, Nat.le_refl _⟩ (fun i σ H4 _ ⟨_, _, _, _, _, _, _, _, h, _⟩ => SqL.of h) ?_ ?_⟩
    · rintro i x σ H4 hi ⟨qs, rs, ss, ts, e4, e5, rfl, s4, hc4, hf4, hl4, hS4, hL4, tq, tn, lq, lr⟩
      have hil : i < (cs.map V.int).length := (List.getElem?_eq_some_iff.mp hi).1
      rw [List.length_map] at hil
      obtain ⟨y, rfl, ey⟩ := map_int_at hi
      unfold gName
      dsimp only [List.set_cons_succ, List.set_cons_zero]
      refine ⟨_, rfl, _, _, rfl, rfl, ⟨by decide, by decide⟩, _, rfl, _, n, rfl, n0, n1, fun m t H5 hm s5 hm5 hg => ?_⟩
      dsimp only [List.set_cons_succ, List.set_cons_zero]
      have k5 := Kp.of s5
      have S5 := SetsH.same hS4 s5
      have L5 := LsH.same hL4 s5
      refine ⟨_, rfl, m, _, rfl, .inl (SqL.of hm5), _, _, rfl, rfl, _, rfl, ?_⟩
      refine ite2 (fun q => ?_) (fun _ => ?_)
      · have q := of_decide_eq_true q
        rw [List.length_map] at q
        have tne : t ≠ [] := fun z => by rw [z] at q; exact absurd q (by decide)
        refine ⟨_, rfl, _, rfl, m, t, ls, rs, ts, rfl, hm5, rfl, SqL.of (s5 ls _ hl4), L5, _, rfl, ?_⟩
        refine ite2 (fun _ => ?_) (fun _ => ?_)
        · refine ⟨_, rfl, .inl ⟨rfl, _, SqL.of (s5 ls _ hl4)⟩, _, rfl, ls, _, _, rfl, rfl, s5 ls _ hl4, small1000 (by rw [List.length_map]; omega), ?_⟩
          have hl5 := s5 ls _ hl4
          have hf5 := s5 lf _ hf4
          have k6 : Kp H5 (upd H5 ls (.lst (rs.map V.ref ++ [.ref m]))) := Kp.upd hl5
          have nml : m ≠ ls := fun z => by rw [z, hl4] at hm; cases hm
          have nmf : m ≠ lf := fun z => by rw [z, hf4] at hm; cases hm
          have S6 := SetsH.kp k6 S5 fun s hs => (tq s hs).ne
          have L6 := LsH.kp k6 L5 tn
          have hm6 := k6.2 m t tne hm5
          have hf6 : upd H5 ls (.lst (rs.map V.ref ++ [.ref m])) lf = some (.lst (qs.map V.ref)) := by rw [upd_ne nls]; exact hf5
          have hl6 : upd H5 ls (.lst (rs.map V.ref ++ [.ref m])) ls = some (.lst ((rs ++ [m]).map V.ref)) := by rw [upd_same, List.map_append]; rfl
          have hc6 : upd H5 ls (.lst (rs.map V.ref ++ [.ref m])) sc = some (.lst (cs.map V.int)) := by rw [upd_ne nl]; exact s5 sc _ hc4
          have s6 : Same H (upd H5 ls (.lst (rs.map V.ref ++ [.ref m]))) := fun b o e => by rw [upd_ne (ne_of_none e hlH)]; exact s5 b o (s4 b o e)
          generalize upd H5 ls (.lst (rs.map V.ref ++ [.ref m])) = H6 at S6 L6 hm6 hf6 hl6 hc6 s6 ⊢
          refine ⟨_, rfl, .inl ⟨rfl, _, SqL.of hf6⟩, _, rfl, _, rfl, _, _, rfl, rfl, ⟨by decide, by decide, by decide⟩, _, _, rfl, rfl, tenp, _, _, rfl, rfl, (by show 2 ≤ sizeLine; decide), fun p hp => ?_⟩
          have pr0 := Int.emod_nonneg y (show (10 : Int) ^ (60 : Int).toNat ≠ 0 by decide)
          generalize y % 10 ^ (60 : Int).toNat = py at pr0 ⊢
          have s7 : Same H6 (upd H6 p (.tup [.ref m, .int (1 + py)])) := Same.new' hp
          have hp7 : upd H6 p (.tup [.ref m, .int (1 + py)]) p = some (.tup [.ref m, .int (1 + py)]) := upd_same
          generalize upd H6 p (.tup [.ref m, .int (1 + py)]) = H7 at s7 hp7 ⊢
          have hf7 := s7 lf _ hf6
          refine ⟨lf, _, _, rfl, rfl, hf7, small1000 (by rw [List.length_map]; omega), ?_⟩
          have S7 : SetsH H7 (qs ++ [p]) (ss ++ [(t, 1 + py)]) := paired_snoc (SetsH.same S6 s7) ⟨m, hp7, s7 m _ hm6⟩
          have L7 : LsH H7 (rs ++ [m]) (ts ++ [t]) := paired_snoc (LsH.same L6 s7) (s7 m _ hm6)
          have tq' : ∀ s ∈ ss ++ [(t, 1 + py)], Told n.toNat s := fun s hs => by
            rcases List.mem_append.mp hs with z | z
            · exact tq s z
            · rw [List.mem_singleton] at z
              subst z
              exact ⟨hg, by show 3 ≤ t.length; omega, by show 0 < 1 + py; omega⟩
          have tn' : ∀ u ∈ ts ++ [t], u ≠ [] := fun u hu' => by
            rcases List.mem_append.mp hu' with z | z
            · exact tn u z
            · rw [List.mem_singleton] at z
              subst z
              exact tne
          have k8 : Kp H7 (upd H7 lf (.lst (qs.map V.ref ++ [.ref p]))) := Kp.upd hf7
          refine ⟨qs ++ [p], rs ++ [m], ss ++ [(t, 1 + py)], ts ++ [t], _, _, rfl, fun b o e => ?_, ?_, ?_, ?_, SetsH.kp k8 S7 (fun s hs => (tq' s hs).ne), LsH.kp k8 L7 tn', tq', tn', ?_, ?_⟩
          · rw [upd_ne (ne_of_none e hf)]; exact s7 b o (s6 b o e)
          · rw [upd_ne nf]; exact s7 sc _ hc6
          · rw [upd_same, List.map_append]; rfl
          · rw [upd_ne (Ne.symm nls)]; exact s7 ls _ hl6
          · rw [List.length_append]; show _ + 1 ≤ _; omega
          · rw [List.length_append]; show _ + 1 ≤ _; omega
        · exact ⟨qs, rs, ss, ts, _, _, rfl, s4.trans s5, s5 sc _ hc4, s5 lf _ hf4, s5 ls _ hl4, S5, L5, tq, tn, by omega, by omega⟩
      · refine iteF ?_
        exact ⟨qs, rs, ss, ts, _, _, rfl, s4.trans s5, s5 sc _ hc4, s5 lf _ hf4, s5 ls _ hl4, S5, L5, tq, tn, by omega, by omega⟩
    · rintro σ H4 ⟨qs, rs, ss, ts, e4, e5, rfl, s4, hc4, hf4, hl4, hS4, hL4, tq, tn, lq, lr⟩
      have ls' := Paired.length hS4
      rw [List.length_map] at lq
      exact ⟨_, rfl, hQ lf qs ss H4 hf s4 hf4 hS4 tq (by omega)⟩
end
end K52

/-! ### k52: the mathematics -/
namespace K52
open PySem L2 PyProof.Rows
theorem sum_add {α : Type} (f g : α → Int) : ∀ l : List α, (l.map fun x => f x + g x).sum = (l.map f).sum + (l.map g).sum
  | [] => rfl
  | x :: l => by
    rw [List.map_cons, List.map_cons, List.map_cons, List.sum_cons, List.sum_cons, List.sum_cons, sum_add f g l]
    omega
theorem perm_sum {l l' : List Int} (h : l.Perm l') : l.sum = l'.sum := by
  induction h with
  | nil => rfl
  | cons x _ ih => rw [List.sum_cons, List.sum_cons, ih]
  | swap x y l => rw [List.sum_cons, List.sum_cons, List.sum_cons, List.sum_cons]; omega
  | trans _ _ ih1 ih2 => exact ih1.trans ih2
/-- neighbours in twos -/
def prp : List Int → List (Int × Int)
  | a :: b :: r => (a, b) :: prp r
  | _ => []
theorem prp_even (f : Int → Int) : ∀ o : List Int, o.length % 2 = 0 → ((prp o).map fun p => f p.1 + f p.2).sum = (o.map f).sum
  | [], _ => rfl
  | [_], h => by simp at h
  | a :: b :: r, h => by
    have h' : r.length % 2 = 0 := by simp only [List.length_cons] at h; omega
    show (f a + f b + ((prp r).map fun p => f p.1 + f p.2).sum) = f a + (f b + (r.map f).sum)
    rw [prp_even f r h']
    omega
theorem prp_le (f : Int → Int) (p : ∀ x, 0 ≤ f x) : ∀ o : List Int, ((prp o).map fun p => f p.1 + f p.2).sum ≤ (o.map f).sum
  | [] => Int.le_refl _
  | [a] => by
    show (0 : Int) ≤ f a + 0
    have := p a
    omega
  | a :: b :: r => by
    show (f a + f b + ((prp r).map fun p => f p.1 + f p.2).sum) ≤ f a + (f b + (r.map f).sum)
    have := prp_le f p r
    omega
theorem prp_len : ∀ o : List Int, (prp o).length = o.length / 2
  | [] => rfl
  | [_] => by simp [prp]
  | _ :: _ :: r => by
    show (prp r).length + 1 = (r.length + 1 + 1) / 2
    rw [prp_len r]
    omega
theorem prp_get : ∀ (o : List Int) (i : Nat), 2 * i + 1 < o.length → (prp o)[i]? = some (o.getD (2 * i) 0, o.getD (2 * i + 1) 0)
  | [], i, h => by simp at h
  | [_], i, h => by simp at h
  | a :: b :: r, 0, _ => rfl
  | a :: b :: r, i + 1, h => by
    have h' : 2 * i + 1 < r.length := by simp only [List.length_cons] at h; omega
    have e1 : (a :: b :: r).getD (2 * (i + 1)) 0 = r.getD (2 * i) 0 := rfl
    have e2 : (a :: b :: r).getD (2 * (i + 1) + 1) 0 = r.getD (2 * i + 1) 0 := rfl
    rw [e1, e2]
    exact prp_get r i h'
theorem prp_mem : ∀ {o : List Int} {p : Int × Int}, p ∈ prp o → p.1 ∈ o ∧ p.2 ∈ o
  | [], _, h => by cases h
  | [_], _, h => by cases h
  | a :: b :: r, p, h => by
    rcases List.mem_cons.mp h with rfl | h
    · exact ⟨.head _, .tail _ (.head _)⟩
    · obtain ⟨h1, h2⟩ := prp_mem h
      exact ⟨.tail _ (.tail _ h1), .tail _ (.tail _ h2)⟩
theorem sub_le {α : Type} {g : α → Int} (p : ∀ x, 0 ≤ g x) {F P : List α} (h : F.Sublist P) : (F.map g).sum ≤ (P.map g).sum := by
  induction h with
  | slnil => exact Int.le_refl _
  | cons x _ ih =>
    rw [List.map_cons, List.sum_cons]
    have := p x
    omega
  | cons_cons x _ ih =>
    rw [List.map_cons, List.sum_cons, List.map_cons, List.sum_cons]
    omega
theorem swap_step (c : List Int × Int → Bool) (n : List Int × Int → Nat) : ∀ ss : List (List Int × Int), (ss.map fun s => s.2 * ((n s + (if c s = true then 1 else 0) : Nat) : Int)).sum = ((ss.filter c).map (·.2)).sum + (ss.map fun s => s.2 * (n s : Int)).sum
  | [] => rfl
  | s :: ss => by
    rw [List.map_cons, List.sum_cons, swap_step c n ss, List.map_cons, List.sum_cons, List.filter_cons]
    by_cases h : c s = true
    · rw [if_pos h, if_pos h, List.map_cons, List.sum_cons, Int.natCast_add, Int.mul_add]
      have : s.2 * ((1 : Nat) : Int) = s.2 := Int.mul_one _
      rw [this]
      omega
    · rw [if_neg h, if_neg h, Nat.add_zero]
      omega
theorem zero_sum : ∀ ss : List (List Int × Int), (ss.map fun s => s.2 * ((0 : Nat) : Int)).sum = 0
  | [] => rfl
  | s :: ss => by
    rw [List.map_cons, List.sum_cons, zero_sum ss]
    show s.2 * 0 + 0 = 0
    rw [Int.mul_zero]
    rfl
theorem swap_sum (c : Int × Int → List Int × Int → Bool) (ss : List (List Int × Int)) : ∀ P : List (Int × Int), (P.map fun p => ((ss.filter (c p)).map (·.2)).sum).sum = (ss.map fun s => s.2 * ((P.countP fun p => c p s : Nat) : Int)).sum
  | [] => (zero_sum ss).symm
  | p :: P => by
    rw [List.map_cons, List.sum_cons, swap_sum c ss P, ← swap_step (c p)]
    congr 1
    refine List.map_congr_left fun s _ => ?_
    rw [List.countP_cons]
/-- is the point in the set -/
def ind (s : List Int × Int) (x : Int) : Int := if x ∈ s.1 then 1 else 0
theorem ind_nn (s : List Int × Int) (x : Int) : 0 ≤ ind s x := by
  unfold ind
  split <;> decide
theorem ind_two (s : List Int × Int) (a b : Int) : ind s a + ind s b = (if jst a b s = true then 1 else 0) + 2 * (if bth a b s = true then 1 else 0) := by
  unfold ind jst bth
  by_cases c : a ∈ s.1 <;> by_cases d : b ∈ s.1 <;> simp [c, d]
def out (P : List (Int × Int)) (s : List Int × Int) : Nat := P.countP fun p => jst p.1 p.2 s
def bot (P : List (Int × Int)) (s : List Int × Int) : Nat := P.countP fun p => bth p.1 p.2 s
theorem cnt_sum (s : List Int × Int) : ∀ F : List (Int × Int), (F.map fun p => ind s p.1 + ind s p.2).sum = (out F s : Int) + 2 * (bot F s : Int)
  | [] => rfl
  | p :: F => by
    rw [List.map_cons, List.sum_cons, cnt_sum s F, ind_two]
    unfold out bot
    rw [List.countP_cons, List.countP_cons]
    by_cases c : jst p.1 p.2 s = true <;> by_cases d : bth p.1 p.2 s = true <;> simp only [c, d, if_true, if_false, Bool.false_eq_true] <;> omega
theorem ind_sub {t l : List Int} (h : t.Sublist l) (n : l.Nodup) : (l.map fun x => if x ∈ t then (1 : Int) else 0).sum = t.length := by
  induction h with
  | slnil => rfl
  | @cons t l a h ih =>
    obtain ⟨n1, n2⟩ := List.nodup_cons.mp n
    rw [List.map_cons, List.sum_cons, ih n2, if_neg fun q => n1 (h.subset q)]
    omega
  | @cons_cons t l a h ih =>
    obtain ⟨n1, n2⟩ := List.nodup_cons.mp n
    rw [List.map_cons, List.sum_cons, if_pos (.head _), List.length_cons]
    have e : (l.map fun x => if x ∈ a :: t then (1 : Int) else 0) = l.map fun x => if x ∈ t then (1 : Int) else 0 := List.map_congr_left fun x hx => by
      have nx : x ≠ a := fun q => n1 (q ▸ hx)
      by_cases c : x ∈ t
      · rw [if_pos c, if_pos (.tail _ c)]
      · rw [if_neg c, if_neg fun q => (List.mem_cons.mp q).elim nx c]
    rw [e, ih n2]
    omega
theorem pts_sum {t : List Int} {n : Nat} (h : t.length = n) : ((upto n).map fun x => t.getD x.toNat 0).sum = t.sum := by
  congr 1
  unfold upto
  rw [List.map_map]
  refine List.ext_getElem (by simp [h]) fun i h1 h2 => ?_
  simp [h2]
section
variable {o : List Int} {n : Nat} (hp : o.Perm (upto n))
include hp
theorem ind_o {s : List Int × Int} (g : GoodT n s.1) : (o.map (ind s)).sum = s.1.length := by
  rw [perm_sum (hp.map (ind s))]
  exact ind_sub g.1 (upto_nd n)
theorem pts_o {t : List Int} (h : t.length = n) : (o.map fun x => t.getD x.toNat 0).sum = t.sum := by
  rw [perm_sum (hp.map _)]
  exact pts_sum h
/-- an odd number of pairs leads out -/
theorem out_odd {s : List Int × Int} (g : Told n s) (e : n % 2 = 0) : 1 ≤ out (prp o) s := by
  have lo : o.length = n := by rw [hp.length_eq, upto_len]
  have h1 := cnt_sum s (prp o)
  rw [prp_even (ind s) o (by omega), ind_o hp g.1] at h1
  rcases g.1.2 with z | z
  · exact absurd z g.ne
  · omega
theorem bot_le {s : List Int × Int} (g : Told n s) {F : List (Int × Int)} (hF : F.Sublist (prp o)) : (bot F s : Int) ≤ ((s.1.length : Int) - 1) / 2 := by
  have h1 := cnt_sum s F
  have h2 := sub_le (g := fun p => ind s p.1 + ind s p.2) (fun p => Int.add_nonneg (ind_nn s _) (ind_nn s _)) hF
  have h3 := prp_le (ind s) (ind_nn s) o
  rw [ind_o hp g.1] at h3
  rcases g.1.2 with z | z
  · exact absurd z g.ne
  · omega
end
theorem le_one {p k : Int} (h : 0 < p) (hk : 1 ≤ k) : p ≤ p * k := by
  have := Int.mul_le_mul_of_nonneg_left hk (Int.le_of_lt h)
  rwa [Int.mul_one] at this
theorem lt_two {p k : Int} (h : 0 < p) (hk : 2 ≤ k) : p < p * k := by
  have := Int.mul_le_mul_of_nonneg_left hk (Int.le_of_lt h)
  omega
theorem over_le (k : List Int × Int → Nat) : ∀ ss : List (List Int × Int), (∀ s ∈ ss, 0 < s.2 ∧ 1 ≤ k s) → (ss.map (·.2)).sum ≤ (ss.map fun s => s.2 * (k s : Int)).sum
  | [], _ => Int.le_refl _
  | s :: ss, h => by
    rw [List.map_cons, List.sum_cons, List.map_cons, List.sum_cons]
    have h1 := over_le k ss fun z hz => h z (.tail _ hz)
    obtain ⟨a, b⟩ := h s (.head _)
    have h2 := le_one (k := (k s : Int)) a (by omega)
    omega
theorem over_eq (k : List Int × Int → Nat) : ∀ ss : List (List Int × Int), (∀ s ∈ ss, 0 < s.2 ∧ 1 ≤ k s) → ((ss.map fun s => s.2 * (k s : Int)).sum = (ss.map (·.2)).sum ↔ ∀ s ∈ ss, k s = 1)
  | [], _ => ⟨fun _ _ z => (nomatch z), fun _ => rfl⟩
  | s :: ss, h => by
    rw [List.map_cons, List.sum_cons, List.map_cons, List.sum_cons]
    have h1 := over_le k ss fun z hz => h z (.tail _ hz)
    have h3 := over_eq k ss fun z hz => h z (.tail _ hz)
    obtain ⟨a, b⟩ := h s (.head _)
    have h2 := le_one (k := (k s : Int)) a (by omega)
    constructor
    · intro e z hz
      rcases List.mem_cons.mp hz with rfl | hz
      · rcases Nat.lt_or_ge (k z) 2 with q | q
        · omega
        · have := lt_two (k := (k z : Int)) a (by omega)
          omega
      · exact h3.mp (by omega) z hz
    · intro q
      rw [h3.mpr fun z hz => q z (.tail _ hz), q s (.head _)]
      show s.2 * 1 + _ = _
      rw [Int.mul_one]
/-- what the pairs pay, all of the points paired -/
theorem paid_eq {o t : List Int} {n : Nat} (hp : o.Perm (upto n)) (e : n % 2 = 0) (ht : t.length = n) (ss : List (List Int × Int)) : ((prp o).map fun p => vlC t ss p.1 p.2).sum = t.sum + (ss.map fun s => s.2 * (out (prp o) s : Int)).sum := by
  have lo : o.length = n := by rw [hp.length_eq, upto_len]
  have h1 : ((prp o).map fun p => vlC t ss p.1 p.2).sum = ((prp o).map fun p => t.getD p.1.toNat 0 + t.getD p.2.toNat 0).sum + ((prp o).map fun p => ((ss.filter (jst p.1 p.2)).map (·.2)).sum).sum := sum_add _ _ _
  rw [h1, prp_even (fun x => t.getD x.toNat 0) o (by omega), pts_o hp ht, swap_sum (fun p s => jst p.1 p.2 s)]
  rfl
/-- what some of the pairs come to within, no price below nought -/
theorem fewer_le {o t : List Int} {n : Nat} (hp : o.Perm (upto n)) (ht : t.length = n) (hn : ∀ x ∈ t, 0 ≤ x) {ss : List (List Int × Int)} (hs : ∀ s ∈ ss, Told n s) {F : List (Int × Int)} (hF : F.Sublist (prp o)) : (F.map fun p => vlI t ss p.1 p.2).sum ≤ vlIS t ss := by
  have h1 : (F.map fun p => vlI t ss p.1 p.2).sum = (F.map fun p => t.getD p.1.toNat 0 + t.getD p.2.toNat 0).sum + (F.map fun p => ((ss.filter (bth p.1 p.2)).map (·.2)).sum).sum := sum_add _ _ _
  have nn : ∀ x : Int, 0 ≤ t.getD x.toNat 0 := fun x => by
    by_cases c : x.toNat < t.length
    · have e : t.getD x.toNat 0 = t[x.toNat] := by simp [c]
      rw [e]
      exact hn _ (List.getElem_mem c)
    · have e : t.getD x.toNat 0 = 0 := by simp [Nat.le_of_not_lt c]
      rw [e]
      exact Int.le_refl _
  have h2 := sub_le (g := fun p : Int × Int => t.getD p.1.toNat 0 + t.getD p.2.toNat 0) (fun p => Int.add_nonneg (nn _) (nn _)) hF
  have h3 := prp_le (fun x => t.getD x.toNat 0) nn o
  rw [pts_o hp ht] at h3
  rw [swap_sum (fun p s => bth p.1 p.2 s)] at h1
  have h4 : ∀ zs : List (List Int × Int), (∀ z ∈ zs, z ∈ ss) → (zs.map fun s => s.2 * ((F.countP fun p => bth p.1 p.2 s : Nat) : Int)).sum ≤ (zs.map room).sum := by
    intro zs
    induction zs with
    | nil => exact fun _ => Int.le_refl _
    | cons z zs ih =>
      intro hz
      rw [List.map_cons, List.sum_cons, List.map_cons, List.sum_cons]
      have i1 := ih fun y hy => hz y (.tail _ hy)
      have g := hs z (hz z (.head _))
      have i2 := Int.mul_le_mul_of_nonneg_left (bot_le hp g hF) (Int.le_of_lt g.2.2)
      have i3 : z.2 * ((F.countP fun p => bth p.1 p.2 z : Nat) : Int) ≤ room z := i2
      omega
  have h5 := h4 ss fun _ z => z
  unfold vlIS
  omega
end K52

/-! ### k52: order, out_of -/
namespace L2
open PySem PySem.Spec PyProof.Rows
/-- tuples of two ints -/
abbrev PrH (H : Hp) (rs : List Addr) (P : List (Int × Int)) : Prop := Paired (fun r p => H r = some (.tup [.int p.1, .int p.2])) rs P
theorem PrH.same {H H' : Hp} {rs : List Addr} {P : List (Int × Int)} (h : PrH H rs P) (z : Same H H') : PrH H' rs P := paired_imp (fun _ _ x => z _ _ x) h
theorem PrH.kp {H H' : Hp} {rs : List Addr} {P : List (Int × Int)} (h : PrH H rs P) (z : Kp H H') : PrH H' rs P := paired_imp (fun _ _ x => z.1 _ _ x) h
theorem pr_at {H : Hp} {rs : List Addr} {P : List (Int × Int)} (h : PrH H rs P) {i : Nat} {x : V} (e : (rs.map V.ref)[i]? = some x) : ∃ q p, x = .ref q ∧ P[i]? = some p ∧ rs[i]? = some q ∧ H q = some (.tup [.int p.1, .int p.2]) := by
  rw [List.getElem?_map] at e
  obtain ⟨q, eq, rfl⟩ := Option.map_eq_some_iff.mp e
  obtain ⟨s, es, hs⟩ := Sx.pair_at h eq
  exact ⟨q, s, rfl, es, eq, hs⟩
/-- an int for each pair -/
theorem turns_prs {K : PySem.W.Frag} {a D : Addr} {rs : List Addr} {P : List (Int × Int)} {te : TE} {cs : St} {Qd : Hp → Prop} {H1 : Hp} (r : Int × Int → Int)
    (ha : H1 a = some (.lst (rs.map V.ref))) (hs : PrH H1 rs P) (hn : P.length ≤ 900) (hD : H1 D = none)
    (he : ∀ p ∈ P, ∀ (e0 : Option V) (H4 : Hp) (κ : VK), Same H1 H4 → (∀ H5, Same H4 H5 → κ (.int (r p)) H5) → te (e0 :: some (.int p.1) :: some (.int p.2) :: cs) H4 κ)
    (hd : ∀ H5, Same H1 H5 → H5 D = some (.lst ((P.map r).map V.int)) → Qd H5) :
    tTurns (Itl K a) (gTup K 2 (gCons (gName 1) (gCons (gName 2) gNil))) tYes te (none :: none :: none :: cs) D Qd H1 := by
  have lq := Paired.length hs
  refine turns_list (K := K) (a := a) (xs := rs.map V.ref) (fun i ys σ H5 => ∃ (e0 e1 e2 : Option V), ys = (((P.take i).map r).map V.int) ∧ σ = e0 :: e1 :: e2 :: cs ∧ Same H1 H5 ∧ H5 D = some (.lst ys)) ⟨none, none, none, rfl, rfl, Same.new' hD, upd_same⟩ ?_ ?_ ?_
  · rintro i ys σ H5 ⟨e0, e1, e2, rfl, rfl, s5, h5⟩
    refine ⟨h5, small1000 ?_, SqL.of (s5 a _ ha)⟩
    rw [List.length_map, List.length_map, List.length_take]
    omega
  · rintro i x ys σ H5 hi ⟨e0, e1, e2, rfl, rfl, s5, h5⟩
    have hil : i < (rs.map V.ref).length := (List.getElem?_eq_some_iff.mp hi).1
    obtain ⟨q, p, rfl, ep, _, hq⟩ := pr_at (PrH.same hs s5) hi
    refine ⟨q, _, rfl, SqT.of hq, rfl, _, _, rfl, _, _, rfl, rfl, ?_⟩
    refine yes_of (he p (List.mem_of_getElem? ep) e0 H5 _ s5 fun H7 s7 => ?_)
    refine ⟨s7 D _ h5, Nxt.mk hil ⟨_, _, _, ?_, rfl, fun b o e => ?_, upd_same⟩⟩
    · rw [List.take_succ, ep, List.map_append, List.map_append]; rfl
    · rw [upd_ne (ne_of_none e hD)]; exact s7 b o (s5 b o e)
  · rintro ys σ0 H5 ⟨e0, e1, e2, rfl, rfl, s5, h5⟩
    rw [List.length_map, lq, List.take_length] at h5
    exact hd H5 s5 h5
/-- a truth for each set -/
theorem turns_setsB {K : PySem.W.Frag} {a D : Addr} {qs : List Addr} {ss : List (List Int × Int)} {te : TE} {cs : St} {Qd : Hp → Prop} {H1 : Hp} (r : List Int × Int → Bool)
    (ha : H1 a = some (.lst (qs.map V.ref))) (hs : SetsH H1 qs ss) (hn : ss.length ≤ 900) (hD : H1 D = none)
    (he : ∀ s ∈ ss, ∀ (m : Addr) (e0 : Option V) (H4 : Hp) (κ : VK), Same H1 H4 → H4 m = some (.lst (s.1.map V.int)) → (∀ H5, Same H4 H5 → κ (.bl (r s)) H5) → te (e0 :: some (.ref m) :: some (.int s.2) :: cs) H4 κ)
    (hd : ∀ H5, Same H1 H5 → H5 D = some (.lst ((ss.map r).map V.bl)) → Qd H5) :
    tTurns (Itl K a) (gTup K 2 (gCons (gName 1) (gCons (gName 2) gNil))) tYes te (none :: none :: none :: cs) D Qd H1 := by
  have lq := Paired.length hs
  refine turns_list (K := K) (a := a) (xs := qs.map V.ref) (fun i ys σ H5 => ∃ (e0 e1 e2 : Option V), ys = (((ss.take i).map r).map V.bl) ∧ σ = e0 :: e1 :: e2 :: cs ∧ Same H1 H5 ∧ H5 D = some (.lst ys)) ⟨none, none, none, rfl, rfl, Same.new' hD, upd_same⟩ ?_ ?_ ?_
  · rintro i ys σ H5 ⟨e0, e1, e2, rfl, rfl, s5, h5⟩
    refine ⟨h5, small1000 ?_, SqL.of (s5 a _ ha)⟩
    rw [List.length_map, List.length_map, List.length_take]
    omega
  · rintro i x ys σ H5 hi ⟨e0, e1, e2, rfl, rfl, s5, h5⟩
    have hil : i < (qs.map V.ref).length := (List.getElem?_eq_some_iff.mp hi).1
    obtain ⟨q, z, rfl, ez, m, hq, hm⟩ := set_at (SetsH.same hs s5) hi
    refine ⟨q, _, rfl, SqT.of hq, rfl, _, _, rfl, _, _, rfl, rfl, ?_⟩
    refine yes_of (he z (List.mem_of_getElem? ez) m e0 H5 _ s5 hm fun H7 s7 => ?_)
    refine ⟨s7 D _ h5, Nxt.mk hil ⟨_, _, _, ?_, rfl, fun b o e => ?_, upd_same⟩⟩
    · rw [List.take_succ, ez, List.map_append, List.map_append]; rfl
    · rw [upd_ne (ne_of_none e hD)]; exact s7 b o (s5 b o e)
  · rintro ys σ0 H5 ⟨e0, e1, e2, rfl, rfl, s5, h5⟩
    rw [List.length_map, lq, List.take_length] at h5
    exact hd H5 s5 h5
/-- the sets once more, each anew -/
theorem turns_copy {K : PySem.W.Frag} {a D : Addr} {qs : List Addr} {ss : List (List Int × Int)} {te : TE} {cs : St} {Qd : Hp → Prop} {H1 : Hp}
    (ha : H1 a = some (.lst (qs.map V.ref))) (hs : SetsH H1 qs ss) (hn : ss.length ≤ 900) (hne : ∀ s ∈ ss, s.1 ≠ []) (hD : H1 D = none)
    (he : ∀ s ∈ ss, ∀ (m : Addr) (e0 : Option V) (H4 : Hp) (κ : VK), Same H1 H4 → H4 m = some (.lst (s.1.map V.int)) → (∀ q H5, Same H4 H5 → SetH H5 q s → κ (.ref q) H5) → te (e0 :: some (.ref m) :: some (.int s.2) :: cs) H4 κ)
    (hd : ∀ zs H5, Same H1 H5 → H5 D = some (.lst (zs.map V.ref)) → SetsH H5 zs ss → Qd H5) :
    tTurns (Itl K a) (gTup K 2 (gCons (gName 1) (gCons (gName 2) gNil))) tYes te (none :: none :: none :: cs) D Qd H1 := by
  have lq := Paired.length hs
  refine turns_list (K := K) (a := a) (xs := qs.map V.ref) (fun i ys σ H5 => ∃ (zs : List Addr) (e0 e1 e2 : Option V), ys = zs.map V.ref ∧ σ = e0 :: e1 :: e2 :: cs ∧ Same H1 H5 ∧ H5 D = some (.lst ys) ∧ SetsH H5 zs (ss.take i)) ⟨[], none, none, none, rfl, rfl, Same.new' hD, upd_same, .nil⟩ ?_ ?_ ?_
  · rintro i ys σ H5 ⟨zs, e0, e1, e2, rfl, rfl, s5, h5, hz⟩
    refine ⟨h5, small1000 ?_, SqL.of (s5 a _ ha)⟩
    have := Paired.length hz
    rw [List.length_take] at this
    rw [List.length_map]
    omega
  · rintro i x ys σ H5 hi ⟨zs, e0, e1, e2, rfl, rfl, s5, h5, hz⟩
    have hil : i < (qs.map V.ref).length := (List.getElem?_eq_some_iff.mp hi).1
    obtain ⟨q, z, rfl, ez, m, hq, hm⟩ := set_at (SetsH.same hs s5) hi
    refine ⟨q, _, rfl, SqT.of hq, rfl, _, _, rfl, _, _, rfl, rfl, ?_⟩
    refine yes_of (he z (List.mem_of_getElem? ez) m e0 H5 _ s5 hm fun r H7 s7 hr => ?_)
    refine ⟨s7 D _ h5, Nxt.mk hil ⟨zs ++ [r], _, _, _, by rw [List.map_append]; rfl, rfl, fun b o e => ?_, upd_same, ?_⟩⟩
    · rw [upd_ne (ne_of_none e hD)]; exact s7 b o (s5 b o e)
    · have S7 : SetsH H7 (zs ++ [r]) (ss.take (i + 1)) := by
        rw [List.take_succ, ez]
        exact paired_snoc (SetsH.same hz s7) hr
      exact SetsH.kp (Kp.upd (s7 D _ h5)) S7 fun y hy => hne y (List.mem_of_mem_take hy)
  · rintro ys σ0 H5 ⟨zs, e0, e1, e2, rfl, rfl, s5, h5, hz⟩
    rw [List.length_map, lq, List.take_length] at hz
    exact hd zs H5 s5 h5 hz
end L2
namespace K52
open PySem L2 PyProof.Rows
section
variable {P : Program} {w : World} {K : PySem.W.Frag} {mg : Str → Option Value} {base : Heap}
def spOrder (K : PySem.W.Frag) : Sp := fun vs H Q _ => ∃ (a : Addr) (m : Int) (ns : List Int), vs = [.ref a, .int m] ∧ SqL K H a (ns.map V.int) ∧ 0 ≤ m ∧ m ≤ 24 ∧
  ∀ (l : Addr) (t : List Int) (H' : Hp), Same H H' → H' l = some (.lst (t.map V.int)) → t.Perm (upto m.toNat) → Q (.ref l) H'
abbrev nmO : List Str := ["_law_script", "_law_many", "_law_found", "_law_a", "_law_at"]
theorem scOrder : FnScope nmO ["_law_script", "_law_many"] (defScope sOrder) := ⟨rfl, rfl, rfl, by decide +kernel, rfl, by decide +kernel, by decide +kernel⟩
theorem ok_order {f fC : Addr} {fd fdC : FuncData} (F : Fun K "_law_order" "_law_order" sOrder f fd) (grange : mg "range" = none)
    (GC : FnOk P w K mg base CX0 1 fC fdC ["_law_script", "_law_k"] (spCell K)) (mC : mg "_law_cell_at" = some (.ref fC)) (kC : PySem.W.keepIn K (.ref fC) = true) (bC : Binds K fdC ["_law_script", "_law_k"] []) :
    FnOk P w K mg base CX0 2 f fd ["_law_script", "_law_many"] (spOrder K) := by
  refine F.ok scOrder (fun vs H Q E h => ?_) (fun cdv A outer s H vs Q E hr h => ?_)
  · obtain ⟨a, m, ns, rfl, _⟩ := h
    rfl
  · obtain ⟨a, m, ns, rfl, hS, m0, m1, hQ⟩ := h
    refine ⟨_, pss_cons (ps_set (i := 2) scOrder.nd rfl (Or.inl rfl) (pe_lst pa_nil))
      (pss_cons (ps_for PassesOwn.never rfl (pi_range1 rfl grange (pa_cons (pv 1) pa_nil)) (pg_name (i := 3) scOrder.nd rfl (Or.inl rfl))
        (pss_cons (ps_set (i := 4) scOrder.nd rfl (Or.inl rfl) (pe_op op_mod (pe_op op_fdiv (pe_call GC hr rfl mC kC bC .nil pass0 (pa_cons (pv 0) (pa_cons (pe_op op_add pe_int (pv 3)) pa_nil))) pe_int) (pe_op op_add (pv 3) pe_int)))
        (pss_one (ps_set (i := 2) scOrder.nd rfl (Or.inl rfl) (pe_op op_cat (pe_op op_cat (pe_slice sl_list (pv 2) po_none (po_some (pv 4))) (pe_lst (pa_cons (pv 3) pa_nil))) (pe_slice sl_list (pv 2) (po_some (pv 4)) po_none))))))
      (pss_one (ps_ret (pv 2)))), ?_⟩
    refine ⟨Nat.zero_le _, fun l hl => ?_⟩
    have s0 : Same H (upd H l (.lst [])) := Same.new' hl
    refine ⟨_, rfl, m, rfl, by omega, by omega, for_range (lo := 0) (n := m.toNat) (fun i σ H2 => ∃ (l : Addr) (t : List Int) (e3 e4 : Option V), σ = [some (.ref a), some (.int m), some (.ref l), e3, e4] ∧ Same H H2 ∧ H2 l = some (.lst (t.map V.int)) ∧ t.Perm (upto i) ∧ i ≤ m.toNat)
      ⟨l, [], none, none, rfl, s0, upd_same, List.Perm.refl _, Nat.zero_le _⟩ ?_ ?_⟩
    · rintro i σ H2 hi ⟨l, t, e3, e4, rfl, s2, h2, hp, li⟩
      have lt := hp.length_eq
      rw [upto_len] at lt
      refine ⟨_, rfl, _, rfl, _, _, rfl, rfl, a, ns, _, rfl, by omega, s2.seq hS, fun n => ⟨_, _, rfl, rfl, ⟨by decide, by decide⟩, _, rfl, _, _, rfl, rfl, _, _, rfl, rfl, (by show (0 : Int) < 0 + (i : Int) + 1; omega), ?_⟩⟩
      dsimp only [gName, List.set_cons_succ, List.set_cons_zero]
      have nu0 := Int.emod_nonneg (n / 7) (show 0 + (i : Int) + 1 ≠ 0 by omega)
      generalize n / 7 % (0 + (i : Int) + 1) = nu at nu0 ⊢
      refine ⟨_, rfl, _, rfl, _, rfl, l, _, rfl, SqL.of h2, fun p1 q1 => ?_⟩
      rw [cut_map, cutA_take t nu0]
      have s3 : Same H2 (upd H2 p1 (.lst ((t.take nu.toNat).map V.int))) := Same.new' q1
      have g3 : upd H2 p1 (.lst ((t.take nu.toNat).map V.int)) p1 = some (.lst ((t.take nu.toNat).map V.int)) := upd_same
      generalize upd H2 p1 (.lst ((t.take nu.toNat).map V.int)) = H3 at s3 g3 ⊢
      refine ⟨_, rfl, (by show 1 ≤ sizeLine; decide), fun p2 q2 => ?_⟩
      have s4 : Same H3 (upd H3 p2 (.lst [.int (0 + (i : Int))])) := Same.new' q2
      have g4 : upd H3 p2 (.lst [.int (0 + (i : Int))]) p2 = some (.lst [.int (0 + (i : Int))]) := upd_same
      generalize upd H3 p2 (.lst [.int (0 + (i : Int))]) = H4 at s4 g4 ⊢
      have l1 : (t.take nu.toNat).length ≤ 24 := by rw [List.length_take]; omega
      refine ⟨p1, p2, _, _, rfl, rfl, s4 p1 _ g3, g4, Nat.le_of_lt (small1000 (by rw [List.length_map]; show _ + 1 ≤ _; omega)), fun p3 q3 => ?_⟩
      have s5 : Same H4 (upd H4 p3 (.lst ((t.take nu.toNat).map V.int ++ [.int (0 + (i : Int))]))) := Same.new' q3
      have g5 : upd H4 p3 (.lst ((t.take nu.toNat).map V.int ++ [.int (0 + (i : Int))])) p3 = some (.lst ((t.take nu.toNat).map V.int ++ [.int (0 + (i : Int))])) := upd_same
      generalize upd H4 p3 (.lst ((t.take nu.toNat).map V.int ++ [.int (0 + (i : Int))])) = H5 at s5 g5 ⊢
      have s25 := s3.trans (s4.trans s5)
      refine ⟨_, rfl, _, rfl, _, rfl, l, _, rfl, SqL.of (s25 l _ h2), fun p4 q4 => ?_⟩
      rw [cut_map, cutA_drop t nu0]
      have s6 : Same H5 (upd H5 p4 (.lst ((t.drop nu.toNat).map V.int))) := Same.new' q4
      have g6 : upd H5 p4 (.lst ((t.drop nu.toNat).map V.int)) p4 = some (.lst ((t.drop nu.toNat).map V.int)) := upd_same
      generalize upd H5 p4 (.lst ((t.drop nu.toNat).map V.int)) = H6 at s6 g6 ⊢
      have l2 : (t.drop nu.toNat).length ≤ 24 := by rw [List.length_drop]; omega
      refine ⟨p3, p4, _, _, rfl, rfl, s6 p3 _ g5, g6, Nat.le_of_lt (small1000 (by rw [List.length_append, List.length_map, List.length_map]; show _ + 1 + _ ≤ _; omega)), fun p5 q5 => ?_⟩
      refine ⟨p5, t.take nu.toNat ++ (0 + (i : Int)) :: t.drop nu.toNat, _, _, rfl, s2.trans (s25.trans (s6.trans (Same.new' q5))), ?_, ?_, hi⟩
      · rw [upd_same, List.map_append, List.map_cons, List.append_assoc]; rfl
      · rw [upto_succ, Int.zero_add]
        refine List.perm_middle.trans ?_
        rw [List.take_append_drop]
        exact (List.Perm.cons _ hp).trans (List.perm_append_singleton _ _).symm
    · rintro σ H2 ⟨l, t, e3, e4, rfl, s2, h2, hp, li⟩
      exact ⟨_, rfl, hQ l t H2 s2 h2 hp⟩
/-- counted: just one of both -/
def cnt1 (a b : Int) (s : List Int × Int) : Bool := decide (V.int (((s.1.count a : Nat) : Int) + ((s.1.count b : Nat) : Int)) = V.int 1)
theorem cnt1_eq {a b : Int} {s : List Int × Int} (h : s.1.Nodup) : cnt1 a b s = jst a b s := by
  unfold cnt1 jst
  rw [h.count, h.count]
  by_cases c : a ∈ s.1 <;> by_cases d : b ∈ s.1 <;> simp [c, d]
def spOut : Sp := fun vs H Q _ => ∃ (m p : Addr) (s : List Int × Int) (rs : List Addr) (Z : List (Int × Int)), vs = [.ref m, .ref p] ∧ H m = some (.lst (s.1.map V.int)) ∧ s.1.Nodup ∧ H p = some (.lst (rs.map V.ref)) ∧ PrH H rs Z ∧ Z.length ≤ 900 ∧ ∀ H', Same H H' → Q (.int (out Z s : Nat)) H'
abbrev nmU : List Str := ["_law_some", "_law_pairs"]
theorem scOut : FnScope nmU nmU (defScope sOut) := ⟨rfl, rfl, rfl, by decide +kernel, rfl, by decide +kernel, by decide +kernel⟩
abbrev XU (P : Program) (w : World) (K : PySem.W.Frag) (mg : Str → Option Value) (base : Heap) (f : Addr) (cdv : Value) (A : Around) (outer : List Env) (s : Shared) (H : Hp) (E : XK) : Cx := (cxOf CX0 P w K mg base nmU "_law_out_of" (defScope sOut) f cdv A outer s H E).nox
def compU : Scope := { kind := .function, names := [(Str.ofString ".0", .local), (Str.ofString "_law_pair", .local), (Str.ofString "_law_some", .free)], isGenerator := false, isCoroutine := false, more := [] }
theorem nd_compU : ([".0", "_law_pair", "_law_some"] : List Str).Nodup := by decide +kernel
theorem capsU {f : Addr} {cdv : Value} {A : Around} {outer : List Env} {s : Shared} {H : Hp} {E : XK} : Caps (XU P w K mg base f cdv A outer s H E) compU [(Str.ofString "_law_some", s.heap.objs.size + 1)] [".0", "_law_pair"] ["_law_some"] [0] := by
  have e1 : (XU P w K mg base f cdv A outer s H E).env.cells = [(Str.ofString "_law_some", s.heap.objs.size + 1)] := by rfl
  have e2 : (relabel compU (XU P w K mg base f cdv A outer s H E).env).names = [(Str.ofString ".0", .local), (Str.ofString "_law_pair", .local), (Str.ofString "_law_some", .cell)] := by rfl
  refine ⟨rfl, fun x c h => ?_, rfl, by decide +kernel, by decide +kernel, fun x hx => ?_, rfl, fun i x e => ?_⟩
  · have hx : (x = Str.ofString "_law_some" ∧ c = s.heap.objs.size + 1) := by
      have := PySem.mem_of_lookup h
      simpa using this
    obtain ⟨rfl, rfl⟩ := hx
    rw [e1]; rfl
  · rw [e2] at hx
    have hx : x = Str.ofString "_law_some" := by
      rcases hx with hx | hx
      all_goals
        have := PySem.mem_of_lookup hx
        simpa using this
    subst hx
    exact ⟨_, rfl⟩
  · match i, e with
    | 0, e =>
      cases (Option.some.inj e)
      exact ⟨0, rfl, rfl, rfl, rfl, by rw [e2]; rfl⟩
    | n + 1, e => cases e

theorem ok_out {f : Addr} {fd : FuncData} (F : Fun K "_law_out_of" "_law_out_of" sOut f fd) (glen : mg "len" = none) : FnOk P w K mg base CX0 1 f fd nmU spOut := by
  refine F.ok scOut (fun vs H Q E h => ?_) (fun cdv A outer s H vs Q E hr h => ?_)
  · obtain ⟨m, p, z, rs, Z, rfl, _⟩ := h
    rfl
  · obtain ⟨m, p, z, rs, Z, rfl, hm, nd, hp, hZ, lZ, hQ⟩ := h
    have lq := Paired.length hZ
    refine' ⟨_, pss_one (ps_ret (pe_callB call_len_seq (by rfl) glen PySem.boot_len (pa_cons ?cc pa_nil))), ?_⟩
    case cc => exact pe_comp (g := gName 1) (own := [".0", "_law_pair"]) (caps := ["_law_some"]) (js := [0]) rfl capsU (pi_list (pv 1)) (fun pins C s H1 fp => pg_name (i := 1) nd_compU rfl (Or.inl rfl) (Or.inr rfl)) (fun pins C s H1 fp => pts_one (pt_cmpR op_eq (pe_op op_add (pe_bmK K rfl PySem.F.plainAttrs_list PySem.F.slot_list_count PySem.F.type_list_count mt_count (pv 2) (pa_cons (pe_ix (ix_tupK K rfl) (pv 1) pe_int (fun _ _ => rfl)) pa_nil)) (pe_bmK K rfl PySem.F.plainAttrs_list PySem.F.slot_list_count PySem.F.type_list_count mt_count (pv 2) (pa_cons (pe_ix (ix_tupK K rfl) (pv 1) pe_int (fun _ _ => rfl)) pa_nil))) pe_int (nomark _))) (fun pins C s H1 fp => pv 1)
    refine ⟨_, rfl, p, rfl, ⟨_, SqL.of hp⟩, fun D hD => ?_⟩
    refine turns_list (K := K) (a := p) (xs := rs.map V.ref) (fun i ys σ H5 => ∃ (zs : List Addr) (e0 e1 : Option V), ys = zs.map V.ref ∧ zs.length = (Z.take i).countP (fun q => cnt1 q.1 q.2 z) ∧ σ = [e0, e1, some (.ref m)] ∧ Same H H5 ∧ H5 D = some (.lst ys)) ⟨[], none, none, rfl, rfl, rfl, Same.new' hD, upd_same⟩ ?_ ?_ ?_
    · rintro i ys σ H5 ⟨zs, e0, e1, rfl, lz, rfl, s5, h5⟩
      refine ⟨h5, small1000 ?_, SqL.of (s5 p _ hp)⟩
      have := List.countP_le_length (p := fun q : Int × Int => cnt1 q.1 q.2 z) (l := Z.take i)
      rw [List.length_take] at this
      rw [List.length_map]
      omega
    · rintro i x ys σ H5 hi ⟨zs, e0, e1, rfl, lz, rfl, s5, h5⟩
      have hil : i < (rs.map V.ref).length := (List.getElem?_eq_some_iff.mp hi).1
      obtain ⟨q, y, rfl, ey, _, hq⟩ := pr_at (PrH.same hZ s5) hi
      have ec : (Z.take (i + 1)).countP (fun q => cnt1 q.1 q.2 z) = (Z.take i).countP (fun q => cnt1 q.1 q.2 z) + if cnt1 y.1 y.2 z = true then 1 else 0 := by
        rw [List.take_succ, ey, List.countP_append]
        show _ + [y].countP _ = _
        rw [List.countP_singleton]
      have hm5 := s5 m _ hm
      have g0 : atI [V.int y.1, V.int y.2] 0 = some (.int y.1) := rfl
      have g1 : atI [V.int y.1, V.int y.2] 1 = some (.int y.2) := rfl
      unfold gName
      dsimp only
      refine ⟨_, rfl, .inl ⟨rfl, _, SqL.of hm5⟩, _, rfl, q, _, _, _, rfl, rfl, SqT.of hq, g0, m, z.1, y.1, rfl, rfl, hm5, _, rfl, .inl ⟨rfl, _, SqL.of hm5⟩, _, rfl, q, _, _, _, rfl, rfl, SqT.of hq, g1, m, z.1, y.2, rfl, rfl, hm5, _, _, rfl, rfl, rfl, _, rfl, ?_⟩
      refine ite2 (fun c => ?_) (fun c => ?_)
      · have c : cnt1 y.1 y.2 z = true := c
        rw [if_pos c] at ec
        refine ⟨_, rfl, h5, Nxt.mk hil ⟨zs ++ [q], _, _, by rw [List.map_append]; rfl, by rw [List.length_append, ec, lz]; rfl, rfl, fun b o e => ?_, upd_same⟩⟩
        rw [upd_ne (ne_of_none e hD)]; exact s5 b o e
      · have c : ¬ cnt1 y.1 y.2 z = true := c
        rw [if_neg c] at ec
        exact Nxt.mk hil ⟨zs, _, _, rfl, by omega, rfl, s5, h5⟩
    · rintro ys σ0 H5 ⟨zs, e0, e1, rfl, lz, rfl, s5, h5⟩
      rw [List.length_map, lq, List.take_length] at lz
      refine ⟨D, _, rfl, .inl (SqL.of h5), ?_⟩
      have e : (zs.map V.ref).length = out Z z := by
        rw [List.length_map, lz]
        unfold out
        congr 1
        funext q
        exact cnt1_eq nd
      rw [e]
      exact hQ H5 s5
end
end K52

/-! ### k52: the law -/
namespace K52
open PySem L2 PyProof.Rows
section
variable {P : Program} {w : World} {K : PySem.W.Frag} {mg : Str → Option Value} {base : Heap}
structure CallsL (P : Program) (w : World) (K : PySem.W.Frag) (mg : Str → Option Value) (base : Heap) : Prop where
  lst : mg "list" = none
  rng : mg "range" = none
  gsum : mg "sum" = none
  gall : mg "all" = none
  gabs : mg "abs" = none
  genu : mg "enumerate" = none
  cel : ∃ f fd, mg "_law_cell_at" = some (.ref f) ∧ PySem.W.keepIn K (.ref f) = true ∧ FnOk P w K mg base CX0 1 f fd ["_law_script", "_law_k"] (spCell K) ∧ Binds K fd ["_law_script", "_law_k"] []
  hea : ∃ f fd, mg "_law_heavy" = some (.ref f) ∧ PySem.W.keepIn K (.ref f) = true ∧ FnOk P w K mg base CX0 1 f fd ["_law_cell"] spHeavy ∧ Binds K fd ["_law_cell"] []
  sts : ∃ f fd, mg "_law_sets" = some (.ref f) ∧ PySem.W.keepIn K (.ref f) = true ∧ FnOk P w K mg base CX0 2 f fd ["_law_script", "_law_many"] (spSets K) ∧ Binds K fd ["_law_script", "_law_many"] []
  ord : ∃ f fd, mg "_law_order" = some (.ref f) ∧ PySem.W.keepIn K (.ref f) = true ∧ FnOk P w K mg base CX0 2 f fd ["_law_script", "_law_many"] (spOrder K) ∧ Binds K fd ["_law_script", "_law_many"] []
  out : ∃ f fd, mg "_law_out_of" = some (.ref f) ∧ PySem.W.keepIn K (.ref f) = true ∧ FnOk P w K mg base CX0 1 f fd nmU spOut ∧ Binds K fd nmU []
  cut : ∃ f fd, mg "cut_price" = some (.ref f) ∧ PySem.W.keepIn K (.ref f) = true ∧ FnOk P w K mg base CX0 2 f fd ["prices", "a", "b"] spCut ∧ Binds K fd ["prices", "a", "b"] []
  inn : ∃ f fd, mg "inner_price" = some (.ref f) ∧ PySem.W.keepIn K (.ref f) = true ∧ FnOk P w K mg base CX0 2 f fd ["prices", "a", "b"] spInner ∧ Binds K fd ["prices", "a", "b"] []
  csm : ∃ f fd, mg "cut_sum" = some (.ref f) ∧ PySem.W.keepIn K (.ref f) = true ∧ FnOk P w K mg base CX0 2 f fd ["prices"] (spSum vlCS) ∧ Binds K fd ["prices"] []
  ism : ∃ f fd, mg "inner_sum" = some (.ref f) ∧ PySem.W.keepIn K (.ref f) = true ∧ FnOk P w K mg base CX0 2 f fd ["prices"] (spSum vlIS) ∧ Binds K fd ["prices"] []
def spLaw (K : PySem.W.Frag) : Sp := fun vs H Q _ => ∃ (a : Addr) (ns : List Int), vs = [.ref a] ∧ SqL K H a (ns.map V.int) ∧ ns.length ≤ 63 ∧ ∀ H', Q (.bl true) H'
abbrev nmL : List Str := ["_law_script", "_law_head", "_law_many", "_law_points", "_law_sets_here", "_law_order_here", "_law_pairs", "_law_prices", "_law_paid", "_law_once", "_law_good", "_law_fewer"]
theorem scLaw : FnScope nmL ["_law_script"] (defScope sLaw) := ⟨rfl, rfl, rfl, by decide +kernel, rfl, by decide +kernel, by decide +kernel⟩
abbrev XL (P : Program) (w : World) (K : PySem.W.Frag) (mg : Str → Option Value) (base : Heap) (f : Addr) (cdv : Value) (A : Around) (outer : List Env) (s : Shared) (H : Hp) (E : XK) : Cx := (cxOf CX0 P w K mg base nmL "law" (defScope sLaw) f cdv A outer s H E).nox
abbrev lawAt (i : Nat) : Stmt := (defBody sLaw).getD i (.Pass ⟨0, 0, 0, 0⟩)
def compP : Scope := { kind := .function, names := [(Str.ofString ".0", .local), (Str.ofString "_law_a", .local), (Str.ofString "_law_heavy", .globalImplicit), (Str.ofString "_law_cell_at", .globalImplicit), (Str.ofString "_law_script", .free)], isGenerator := false, isCoroutine := false, more := [] }
theorem nd_compP : ([".0", "_law_a", "_law_script"] : List Str).Nodup := by decide +kernel
theorem capsP {f : Addr} {cdv : Value} {A : Around} {outer : List Env} {s : Shared} {H : Hp} {E : XK} : Caps (XL P w K mg base f cdv A outer s H E) compP [(Str.ofString "_law_script", s.heap.objs.size + 1)] [".0", "_law_a"] ["_law_script"] [0] := by
  have e1 : (XL P w K mg base f cdv A outer s H E).env.cells = [(Str.ofString "_law_good", s.heap.objs.size + 1 + 1 + 1 + 1 + 1 + 1), (Str.ofString "_law_prices", s.heap.objs.size + 1 + 1 + 1 + 1 + 1), (Str.ofString "_law_pairs", s.heap.objs.size + 1 + 1 + 1 + 1), (Str.ofString "_law_order_here", s.heap.objs.size + 1 + 1 + 1), (Str.ofString "_law_head", s.heap.objs.size + 1 + 1), (Str.ofString "_law_script", s.heap.objs.size + 1)] := by rfl
  have e2 : (relabel compP (XL P w K mg base f cdv A outer s H E).env).names = [(Str.ofString ".0", .local), (Str.ofString "_law_a", .local), (Str.ofString "_law_heavy", .globalImplicit), (Str.ofString "_law_cell_at", .globalImplicit), (Str.ofString "_law_script", .cell)] := by rfl
  refine ⟨rfl, fun x c h => ?_, rfl, by decide +kernel, by decide +kernel, fun x hx => ?_, rfl, fun i x e => ?_⟩
  · have hx : (x = Str.ofString "_law_script" ∧ c = s.heap.objs.size + 1) := by
      have := PySem.mem_of_lookup h
      simpa using this
    obtain ⟨rfl, rfl⟩ := hx
    rw [e1]; rfl
  · rw [e2] at hx
    have hx : x = Str.ofString "_law_script" := by
      rcases hx with hx | hx
      all_goals
        have := PySem.mem_of_lookup hx
        simpa using this
    subst hx
    exact ⟨_, rfl⟩
  · match i, e with
    | 0, e =>
      cases (Option.some.inj e)
      exact ⟨0, rfl, rfl, rfl, rfl, by rw [e2]; rfl⟩
    | n + 1, e => cases e

def compO : Scope := { kind := .function, names := [(Str.ofString ".0", .local), (Str.ofString "_law_k", .local), (Str.ofString "_law_order_here", .free)], isGenerator := false, isCoroutine := false, more := [] }
theorem nd_compO : ([".0", "_law_k", "_law_order_here"] : List Str).Nodup := by decide +kernel
theorem capsO {f : Addr} {cdv : Value} {A : Around} {outer : List Env} {s : Shared} {H : Hp} {E : XK} : Caps (XL P w K mg base f cdv A outer s H E) compO [(Str.ofString "_law_order_here", s.heap.objs.size + 1 + 1 + 1)] [".0", "_law_k"] ["_law_order_here"] [5] := by
  have e1 : (XL P w K mg base f cdv A outer s H E).env.cells = [(Str.ofString "_law_good", s.heap.objs.size + 1 + 1 + 1 + 1 + 1 + 1), (Str.ofString "_law_prices", s.heap.objs.size + 1 + 1 + 1 + 1 + 1), (Str.ofString "_law_pairs", s.heap.objs.size + 1 + 1 + 1 + 1), (Str.ofString "_law_order_here", s.heap.objs.size + 1 + 1 + 1), (Str.ofString "_law_head", s.heap.objs.size + 1 + 1), (Str.ofString "_law_script", s.heap.objs.size + 1)] := by rfl
  have e2 : (relabel compO (XL P w K mg base f cdv A outer s H E).env).names = [(Str.ofString ".0", .local), (Str.ofString "_law_k", .local), (Str.ofString "_law_order_here", .cell)] := by rfl
  refine ⟨rfl, fun x c h => ?_, rfl, by decide +kernel, by decide +kernel, fun x hx => ?_, rfl, fun i x e => ?_⟩
  · have hx : (x = Str.ofString "_law_order_here" ∧ c = s.heap.objs.size + 1 + 1 + 1) := by
      have := PySem.mem_of_lookup h
      simpa using this
    obtain ⟨rfl, rfl⟩ := hx
    rw [e1]; rfl
  · rw [e2] at hx
    have hx : x = Str.ofString "_law_order_here" := by
      rcases hx with hx | hx
      all_goals
        have := PySem.mem_of_lookup hx
        simpa using this
    subst hx
    exact ⟨_, rfl⟩
  · match i, e with
    | 0, e =>
      cases (Option.some.inj e)
      exact ⟨5, rfl, rfl, rfl, rfl, by rw [e2]; rfl⟩
    | n + 1, e => cases e

def compC2 : Scope := { kind := .function, names := [(Str.ofString ".0", .local), (Str.ofString "_law_a", .local), (Str.ofString "_law_b", .local), (Str.ofString "cut_price", .globalImplicit), (Str.ofString "_law_prices", .free)], isGenerator := false, isCoroutine := false, more := [] }
theorem nd_compC2 : ([".0", "_law_a", "_law_b", "_law_prices"] : List Str).Nodup := by decide +kernel
theorem capsC2 {f : Addr} {cdv : Value} {A : Around} {outer : List Env} {s : Shared} {H : Hp} {E : XK} : Caps (XL P w K mg base f cdv A outer s H E) compC2 [(Str.ofString "_law_prices", s.heap.objs.size + 1 + 1 + 1 + 1 + 1)] [".0", "_law_a", "_law_b"] ["_law_prices"] [7] := by
  have e1 : (XL P w K mg base f cdv A outer s H E).env.cells = [(Str.ofString "_law_good", s.heap.objs.size + 1 + 1 + 1 + 1 + 1 + 1), (Str.ofString "_law_prices", s.heap.objs.size + 1 + 1 + 1 + 1 + 1), (Str.ofString "_law_pairs", s.heap.objs.size + 1 + 1 + 1 + 1), (Str.ofString "_law_order_here", s.heap.objs.size + 1 + 1 + 1), (Str.ofString "_law_head", s.heap.objs.size + 1 + 1), (Str.ofString "_law_script", s.heap.objs.size + 1)] := by rfl
  have e2 : (relabel compC2 (XL P w K mg base f cdv A outer s H E).env).names = [(Str.ofString ".0", .local), (Str.ofString "_law_a", .local), (Str.ofString "_law_b", .local), (Str.ofString "cut_price", .globalImplicit), (Str.ofString "_law_prices", .cell)] := by rfl
  refine ⟨rfl, fun x c h => ?_, rfl, by decide +kernel, by decide +kernel, fun x hx => ?_, rfl, fun i x e => ?_⟩
  · have hx : (x = Str.ofString "_law_prices" ∧ c = s.heap.objs.size + 1 + 1 + 1 + 1 + 1) := by
      have := PySem.mem_of_lookup h
      simpa using this
    obtain ⟨rfl, rfl⟩ := hx
    rw [e1]; rfl
  · rw [e2] at hx
    have hx : x = Str.ofString "_law_prices" := by
      rcases hx with hx | hx
      all_goals
        have := PySem.mem_of_lookup hx
        simpa using this
    subst hx
    exact ⟨_, rfl⟩
  · match i, e with
    | 0, e =>
      cases (Option.some.inj e)
      exact ⟨7, rfl, rfl, rfl, rfl, by rw [e2]; rfl⟩
    | n + 1, e => cases e

def compN : Scope := { kind := .function, names := [(Str.ofString ".0", .local), (Str.ofString "_law_some", .local), (Str.ofString "_law_price", .local), (Str.ofString "_law_out_of", .globalImplicit), (Str.ofString "_law_pairs", .free)], isGenerator := false, isCoroutine := false, more := [] }
theorem nd_compN : ([".0", "_law_some", "_law_price", "_law_pairs"] : List Str).Nodup := by decide +kernel
theorem capsN {f : Addr} {cdv : Value} {A : Around} {outer : List Env} {s : Shared} {H : Hp} {E : XK} : Caps (XL P w K mg base f cdv A outer s H E) compN [(Str.ofString "_law_pairs", s.heap.objs.size + 1 + 1 + 1 + 1)] [".0", "_law_some", "_law_price"] ["_law_pairs"] [6] := by
  have e1 : (XL P w K mg base f cdv A outer s H E).env.cells = [(Str.ofString "_law_good", s.heap.objs.size + 1 + 1 + 1 + 1 + 1 + 1), (Str.ofString "_law_prices", s.heap.objs.size + 1 + 1 + 1 + 1 + 1), (Str.ofString "_law_pairs", s.heap.objs.size + 1 + 1 + 1 + 1), (Str.ofString "_law_order_here", s.heap.objs.size + 1 + 1 + 1), (Str.ofString "_law_head", s.heap.objs.size + 1 + 1), (Str.ofString "_law_script", s.heap.objs.size + 1)] := by rfl
  have e2 : (relabel compN (XL P w K mg base f cdv A outer s H E).env).names = [(Str.ofString ".0", .local), (Str.ofString "_law_some", .local), (Str.ofString "_law_price", .local), (Str.ofString "_law_out_of", .globalImplicit), (Str.ofString "_law_pairs", .cell)] := by rfl
  refine ⟨rfl, fun x c h => ?_, rfl, by decide +kernel, by decide +kernel, fun x hx => ?_, rfl, fun i x e => ?_⟩
  · have hx : (x = Str.ofString "_law_pairs" ∧ c = s.heap.objs.size + 1 + 1 + 1 + 1) := by
      have := PySem.mem_of_lookup h
      simpa using this
    obtain ⟨rfl, rfl⟩ := hx
    rw [e1]; rfl
  · rw [e2] at hx
    have hx : x = Str.ofString "_law_pairs" := by
      rcases hx with hx | hx
      all_goals
        have := PySem.mem_of_lookup hx
        simpa using this
    subst hx
    exact ⟨_, rfl⟩
  · match i, e with
    | 0, e =>
      cases (Option.some.inj e)
      exact ⟨6, rfl, rfl, rfl, rfl, by rw [e2]; rfl⟩
    | n + 1, e => cases e

def compH : Scope := { kind := .function, names := [(Str.ofString ".0", .local), (Str.ofString "_law_k", .local), (Str.ofString "_law_pair", .local), (Str.ofString "_law_head", .free)], isGenerator := false, isCoroutine := false, more := [] }
theorem nd_compH : ([".0", "_law_k", "_law_pair", "_law_head"] : List Str).Nodup := by decide +kernel
theorem capsH {f : Addr} {cdv : Value} {A : Around} {outer : List Env} {s : Shared} {H : Hp} {E : XK} : Caps (XL P w K mg base f cdv A outer s H E) compH [(Str.ofString "_law_head", s.heap.objs.size + 1 + 1)] [".0", "_law_k", "_law_pair"] ["_law_head"] [1] := by
  have e1 : (XL P w K mg base f cdv A outer s H E).env.cells = [(Str.ofString "_law_good", s.heap.objs.size + 1 + 1 + 1 + 1 + 1 + 1), (Str.ofString "_law_prices", s.heap.objs.size + 1 + 1 + 1 + 1 + 1), (Str.ofString "_law_pairs", s.heap.objs.size + 1 + 1 + 1 + 1), (Str.ofString "_law_order_here", s.heap.objs.size + 1 + 1 + 1), (Str.ofString "_law_head", s.heap.objs.size + 1 + 1), (Str.ofString "_law_script", s.heap.objs.size + 1)] := by rfl
  have e2 : (relabel compH (XL P w K mg base f cdv A outer s H E).env).names = [(Str.ofString ".0", .local), (Str.ofString "_law_k", .local), (Str.ofString "_law_pair", .local), (Str.ofString "_law_head", .cell)] := by rfl
  refine ⟨rfl, fun x c h => ?_, rfl, by decide +kernel, by decide +kernel, fun x hx => ?_, rfl, fun i x e => ?_⟩
  · have hx : (x = Str.ofString "_law_head" ∧ c = s.heap.objs.size + 1 + 1) := by
      have := PySem.mem_of_lookup h
      simpa using this
    obtain ⟨rfl, rfl⟩ := hx
    rw [e1]; rfl
  · rw [e2] at hx
    have hx : x = Str.ofString "_law_head" := by
      rcases hx with hx | hx
      all_goals
        have := PySem.mem_of_lookup hx
        simpa using this
    subst hx
    exact ⟨_, rfl⟩
  · match i, e with
    | 0, e =>
      cases (Option.some.inj e)
      exact ⟨1, rfl, rfl, rfl, rfl, by rw [e2]; rfl⟩
    | n + 1, e => cases e

def compG : Scope := { kind := .function, names := [(Str.ofString ".0", .local), (Str.ofString "_law_a", .local), (Str.ofString "_law_b", .local), (Str.ofString "inner_price", .globalImplicit), (Str.ofString "_law_good", .free)], isGenerator := false, isCoroutine := false, more := [] }
theorem nd_compG : ([".0", "_law_a", "_law_b", "_law_good"] : List Str).Nodup := by decide +kernel
theorem capsG {f : Addr} {cdv : Value} {A : Around} {outer : List Env} {s : Shared} {H : Hp} {E : XK} : Caps (XL P w K mg base f cdv A outer s H E) compG [(Str.ofString "_law_good", s.heap.objs.size + 1 + 1 + 1 + 1 + 1 + 1)] [".0", "_law_a", "_law_b"] ["_law_good"] [10] := by
  have e1 : (XL P w K mg base f cdv A outer s H E).env.cells = [(Str.ofString "_law_good", s.heap.objs.size + 1 + 1 + 1 + 1 + 1 + 1), (Str.ofString "_law_prices", s.heap.objs.size + 1 + 1 + 1 + 1 + 1), (Str.ofString "_law_pairs", s.heap.objs.size + 1 + 1 + 1 + 1), (Str.ofString "_law_order_here", s.heap.objs.size + 1 + 1 + 1), (Str.ofString "_law_head", s.heap.objs.size + 1 + 1), (Str.ofString "_law_script", s.heap.objs.size + 1)] := by rfl
  have e2 : (relabel compG (XL P w K mg base f cdv A outer s H E).env).names = [(Str.ofString ".0", .local), (Str.ofString "_law_a", .local), (Str.ofString "_law_b", .local), (Str.ofString "inner_price", .globalImplicit), (Str.ofString "_law_good", .cell)] := by rfl
  refine ⟨rfl, fun x c h => ?_, rfl, by decide +kernel, by decide +kernel, fun x hx => ?_, rfl, fun i x e => ?_⟩
  · have hx : (x = Str.ofString "_law_good" ∧ c = s.heap.objs.size + 1 + 1 + 1 + 1 + 1 + 1) := by
      have := PySem.mem_of_lookup h
      simpa using this
    obtain ⟨rfl, rfl⟩ := hx
    rw [e1]; rfl
  · rw [e2] at hx
    have hx : x = Str.ofString "_law_good" := by
      rcases hx with hx | hx
      all_goals
        have := PySem.mem_of_lookup hx
        simpa using this
    subst hx
    exact ⟨_, rfl⟩
  · match i, e with
    | 0, e =>
      cases (Option.some.inj e)
      exact ⟨10, rfl, rfl, rfl, rfl, by rw [e2]; rfl⟩
    | n + 1, e => cases e

theorem nd_ownC : ([".0", "_law_some", "_law_price"] : List Str).Nodup := by decide +kernel
theorem nd_ownA : ([".0", "_law_price"] : List Str).Nodup := by decide +kernel
section
variable {f : Addr} {cdv : Value} {A : Around} {outer : List Env} {s : Shared} {H : Hp} {E : XK}
/-- the points -/
def tPts (K : PySem.W.Frag) : TS := fun D σ H => ∃ (a : Addr) (ns : List Int) (n : Int), σ[0]? = some (some (.ref a)) ∧ σ[2]? = some (some (.int n)) ∧ SqL K H a (ns.map V.int) ∧ 0 ≤ n ∧ n ≤ 13 ∧
  ∀ (l : Addr) (t : List Int) (H' : Hp), Same H H' → H' l = some (.lst (t.map V.int)) → t.length = n.toNat → D.nx (σ.set 3 (some (.ref l))) H'
theorem ok_pts (G : CallsL P w K mg base) (hr : Room 1 (XL P w K mg base f cdv A outer s H E).A) : PS (XL P w K mg base f cdv A outer s H E) (lawAt 2) (tPts K) := by
  obtain ⟨f1, fd1, m1, k1, G1, b1⟩ := G.cel
  obtain ⟨f2, fd2, m2, k2, G2, b2⟩ := G.hea
  refine' PS.imp (t' := tPts K) (ps_comp (i := 3) (g := gName 1) (own := [".0", "_law_a"]) (caps := ["_law_script"]) (js := [0]) rfl capsP (pi_range1 rfl G.rng (pa_cons (pv 2) pa_nil)) (fun pins C s H1 fp => pg_name (i := 1) nd_compP rfl (Or.inl rfl) (Or.inr rfl)) (fun pins C s H1 fp => pts_nil) (fun pins C s H1 fp => pe_call G2 hr rfl m2 k2 b2 .nil pass0 (pa_cons (pe_call G1 hr rfl m1 k1 b1 .nil pass0 (pa_cons (pv 2) (pa_cons (pe_op op_add pe_int (pv 1)) pa_nil))) pa_nil)) scLaw.nd rfl rfl rfl) ?_
  rintro D σ H1 ⟨a, ns, n, e0, e2, hS, n0, n1, k⟩
  refine ⟨_, e2, n, rfl, by omega, by omega, fun D2 hD => ?_⟩
  have eC : σC ([".0", "_law_a"] : List Str).length [0] σ = [none, none, some (.ref a)] := by
    show [none, none, (σ[0]?).getD none] = _
    rw [e0]
    rfl
  rw [eC]
  refine turns_range (lo := 0) (n := n.toNat) (fun i ys σ H5 => ∃ (t : List Int) (e0 e1 : Option V), ys = t.map V.int ∧ t.length = i ∧ i ≤ n.toNat ∧ σ = [e0, e1, some (.ref a)] ∧ Same H1 H5 ∧ H5 D2 = some (.lst ys)) ⟨[], none, none, rfl, rfl, Nat.zero_le _, rfl, Same.new' hD, upd_same⟩ ?_ ?_ ?_
  · rintro i ys σ H5 ⟨t, e0, e1, rfl, ht, li, rfl, s5, h5⟩
    refine ⟨h5, small1000 ?_⟩
    rw [List.length_map]
    omega
  · rintro i ys σ H5 hi ⟨t, e0, e1, rfl, ht, li, rfl, s5, h5⟩
    unfold gName
    dsimp only
    refine yes_of ?_
    refine ⟨_, rfl, _, rfl, _, _, rfl, rfl, a, ns, _, rfl, by omega, s5.seq hS, fun c => ⟨c, rfl, fun v => ?_⟩⟩
    refine ⟨h5, Nxt.mk hi ⟨t ++ [v], _, _, by rw [List.map_append]; rfl, by rw [List.length_append, ht]; rfl, hi, rfl, fun b o e => ?_, upd_same⟩⟩
    rw [upd_ne (ne_of_none e hD)]; exact s5 b o e
  · rintro ys σ0 H5 ⟨t, e0, e1, rfl, ht, li, rfl, s5, h5⟩
    exact k D2 t H5 s5 h5 ht
/-- the pairs -/
def tPrs : TS := fun D σ H => ∃ (l : Addr) (o : List Int) (n : Int), σ[2]? = some (some (.int n)) ∧ σ[5]? = some (some (.ref l)) ∧ H l = some (.lst (o.map V.int)) ∧ 0 ≤ n ∧ n ≤ 13 ∧ o.length = n.toNat ∧
  ∀ (p : Addr) (rs : List Addr) (H' : Hp), Same H H' → H' p = some (.lst (rs.map V.ref)) → PrH H' rs (prp o) → D.nx (σ.set 6 (some (.ref p))) H'
theorem ok_prs (G : CallsL P w K mg base) : PS (XL P w K mg base f cdv A outer s H E) (lawAt 5) tPrs := by
  refine' PS.imp (t' := tPrs) (ps_set (i := 6) scLaw.nd rfl (Or.inr rfl) ?cc) ?_
  case cc => exact pe_comp (g := gName 1) (own := [".0", "_law_k"]) (caps := ["_law_order_here"]) (js := [5]) rfl capsO (pi_range1 rfl G.rng (pa_cons (pe_op op_fdiv (pv 2) pe_int) pa_nil)) (fun pins C s H1 fp => pg_name (i := 1) nd_compO rfl (Or.inl rfl) (Or.inr rfl)) (fun pins C s H1 fp => pts_nil) (fun pins C s H1 fp => pe_tup (pa_cons (pe_ix (ix_listK K rfl) (pv 2) (pe_op op_mul pe_int (pv 1)) (fun _ _ => rfl)) (pa_cons (pe_ix (ix_listK K rfl) (pv 2) (pe_op op_add (pe_op op_mul pe_int (pv 1)) pe_int) (fun _ _ => rfl)) pa_nil)))
  rintro D σ H1 ⟨l, o, n, e2, e5, hl, n0, n1, lo, k⟩
  have lp := prp_len o
  have en : (n / 2).toNat = (prp o).length := by omega
  refine ⟨_, e2, _, _, rfl, rfl, ⟨by decide, by decide⟩, n / 2, rfl, by omega, by omega, fun D2 hD => ?_⟩
  have eC : σC ([".0", "_law_k"] : List Str).length [5] σ = [none, none, some (.ref l)] := by
    show [none, none, (σ[5]?).getD none] = _
    rw [e5]
    rfl
  rw [eC]
  refine turns_range (lo := 0) (n := (n / 2).toNat) (fun i ys σ H5 => ∃ (rs : List Addr) (e0 e1 : Option V), ys = rs.map V.ref ∧ i ≤ (n / 2).toNat ∧ σ = [e0, e1, some (.ref l)] ∧ Same H1 H5 ∧ H5 D2 = some (.lst ys) ∧ PrH H5 rs ((prp o).take i)) ⟨[], none, none, rfl, Nat.zero_le _, rfl, Same.new' hD, upd_same, .nil⟩ ?_ ?_ ?_
  · rintro i ys σ H5 ⟨rs, e0, e1, rfl, li, rfl, s5, h5, hP⟩
    refine ⟨h5, small1000 ?_⟩
    have := Paired.length hP
    rw [List.length_take] at this
    rw [List.length_map]
    omega
  · rintro i ys σ H5 hi ⟨rs, e0, e1, rfl, li, rfl, s5, h5, hP⟩
    unfold gName
    dsimp only
    refine yes_of ?_
    have ga : atI (o.map V.int) (2 * (0 + (i : Int))) = some (.int (o.getD (2 * i) 0)) := atI_get' (k := 2 * i) (by omega) (by omega)
    have gb : atI (o.map V.int) (2 * (0 + (i : Int)) + 1) = some (.int (o.getD (2 * i + 1) 0)) := atI_get' (k := 2 * i + 1) (by omega) (by omega)
    have eg := prp_get o i (by omega)
    refine ⟨_, rfl, _, rfl, _, _, rfl, rfl, .inl ⟨by decide, by decide⟩, l, _, _, _, rfl, rfl, SqL.of (s5 l _ hl), ga, _, rfl, _, rfl, _, _, rfl, rfl, .inl ⟨by decide, by decide⟩, _, _, rfl, rfl, l, _, _, _, rfl, rfl, SqL.of (s5 l _ hl), gb, (by show 2 ≤ sizeLine; decide), fun q hq => ?_⟩
    have s6 : Same H5 (upd H5 q (.tup [.int (o.getD (2 * i) 0), .int (o.getD (2 * i + 1) 0)])) := Same.new' hq
    have hq6 : upd H5 q (.tup [.int (o.getD (2 * i) 0), .int (o.getD (2 * i + 1) 0)]) q = some (.tup [.int (o.getD (2 * i) 0), .int (o.getD (2 * i + 1) 0)]) := upd_same
    generalize upd H5 q (.tup [.int (o.getD (2 * i) 0), .int (o.getD (2 * i + 1) 0)]) = H6 at s6 hq6 ⊢
    refine ⟨s6 D2 _ h5, Nxt.mk hi ⟨rs ++ [q], _, _, by rw [List.map_append]; rfl, hi, rfl, fun b o e => ?_, upd_same, ?_⟩⟩
    · rw [upd_ne (ne_of_none e hD)]; exact s6 b o (s5 b o e)
    · have P6 : PrH H6 (rs ++ [q]) ((prp o).take (i + 1)) := by
        rw [List.take_succ, eg]
        exact paired_snoc (PrH.same hP s6) hq6
      exact PrH.kp P6 (Kp.upd (s6 D2 _ h5))
  · rintro ys σ0 H5 ⟨rs, e0, e1, rfl, li, rfl, s5, h5, hP⟩
    rw [en, List.take_length] at hP
    exact k D2 rs H5 s5 h5 hP
/-- what is known all the way -/
structure Kn (H : Hp) (t0 s0 p0 : Addr) (n : Int) (t o : List Int) (qs rs : List Addr) (ss : List (List Int × Int)) : Prop where
  ht : H t0 = some (.lst (t.map V.int))
  hs : H s0 = some (.lst (qs.map V.ref))
  hp : H p0 = some (.lst (rs.map V.ref))
  hS : SetsH H qs ss
  hP : PrH H rs (prp o)
  n0 : 0 ≤ n
  n1 : n ≤ 13
  lt : t.length = n.toNat
  po : o.Perm (upto n.toNat)
  td : ∀ z ∈ ss, Told n.toNat z
  ls : ss.length ≤ 63
theorem Kn.same {H H' : Hp} {t0 s0 p0 : Addr} {n : Int} {t o : List Int} {qs rs : List Addr} {ss : List (List Int × Int)} (k : Kn H t0 s0 p0 n t o qs rs ss) (z : Same H H') : Kn H' t0 s0 p0 n t o qs rs ss :=
  ⟨z _ _ k.ht, z _ _ k.hs, z _ _ k.hp, SetsH.same k.hS z, PrH.same k.hP z, k.n0, k.n1, k.lt, k.po, k.td, k.ls⟩
theorem Kn.len {H : Hp} {t0 s0 p0 : Addr} {n : Int} {t o : List Int} {qs rs : List Addr} {ss : List (List Int × Int)} (k : Kn H t0 s0 p0 n t o qs rs ss) : (prp o).length ≤ 13 := by
  have h1 := prp_len o
  have h2 := k.po.length_eq
  rw [upto_len] at h2
  have := k.n1
  omega
theorem Kn.pt {H : Hp} {t0 s0 p0 : Addr} {n : Int} {t o : List Int} {qs rs : List Addr} {ss : List (List Int × Int)} (k : Kn H t0 s0 p0 n t o qs rs ss) {p : Int × Int} (hp : p ∈ prp o) : 0 ≤ p.1 ∧ p.1 < n.toNat ∧ 0 ≤ p.2 ∧ p.2 < n.toNat := by
  obtain ⟨a, b⟩ := prp_mem hp
  have a := upto_mem.mp (k.po.mem_iff.mp a)
  have b := upto_mem.mp (k.po.mem_iff.mp b)
  exact ⟨a.1, a.2, b.1, b.2⟩
/-- all of the points paired -/
def tEven : TS := fun D σ H => ∃ (a t0 s0 l0 p0 : Addr) (h n : Int) (t o : List Int) (qs rs : List Addr) (ss : List (List Int × Int)) (e7 e8 e9 e10 e11 : Option V), σ = [some (.ref a), some (.int h), some (.int n), some (.ref t0), some (.ref s0), some (.ref l0), some (.ref p0), e7, e8, e9, e10, e11] ∧ Kn H t0 s0 p0 n t o qs rs ss ∧
  ∀ (e7 e8 e9 : Option V) (H' : Hp), Same H H' → D.nx [some (.ref a), some (.int h), some (.int n), some (.ref t0), some (.ref s0), some (.ref l0), some (.ref p0), e7, e8, e9, e10, e11] H'
theorem ok_even (G : CallsL P w K mg base) (hr : Room 2 (XL P w K mg base f cdv A outer s H E).A) : PS (XL P w K mg base f cdv A outer s H E) (lawAt 6) tEven := by
  obtain ⟨f1, fd1, m1, k1, G1, b1⟩ := G.cut
  obtain ⟨f2, fd2, m2, k2, G2, b2⟩ := G.out
  obtain ⟨f3, fd3, m3, k3, G3, b3⟩ := G.csm
  have hr1 : Room 1 (XL P w K mg base f cdv A outer s H E).A := hr.mono (by decide)
  refine' PS.imp (t' := tEven) (ps_if (pt_cmpR op_eq (pe_op op_mod (pv 2) pe_int) pe_int (nomark _)) (pss_cons ?b0 (pss_cons ?b1 (pss_cons ?b2 (pss_one ?b3)))) pss_nil) ?_
  case b0 =>
    refine' ps_set (i := 7) scLaw.nd rfl (Or.inr rfl) (pe_tup (pa_cons pe_int (pa_cons (pe_callTy call_list_of (by rfl) G.lst boot_list (pa_cons (pv 3) pa_nil)) (pa_cons ?cc pa_nil))))
    case cc => exact pe_comp (g := gTup K 2 (gCons (gName 1) (gCons (gName 2) gNil))) (own := [".0", "_law_some", "_law_price"]) (cl := []) (caps := []) (js := []) rfl (caps0 rfl rfl (by decide +kernel) (by decide +kernel)) (pi_list (pv 4)) (fun pins C s H1 fp => pg_tup (n := 2) rfl (pgs_cons (pg_name (i := 1) nd_ownC rfl (Or.inl rfl) (Or.inr rfl)) (pgs_cons (pg_name (i := 2) nd_ownC rfl (Or.inl rfl) (Or.inr rfl)) pgs_nil))) (fun pins C s H1 fp => pts_nil) (fun pins C s H1 fp => pe_tup (pa_cons (pe_callTy (call_listK K rfl) (by rfl) G.lst boot_list (pa_cons (pv 1) pa_nil)) (pa_cons (pv 2) pa_nil)))
  case b1 =>
    refine' ps_set (i := 8) scLaw.nd rfl (Or.inl rfl) (pe_callB (call_sumI rfl) (by rfl) G.gsum boot_sum (pa_cons ?cc pa_nil))
    case cc => exact pe_comp (g := gTup K 2 (gCons (gName 1) (gCons (gName 2) gNil))) (own := [".0", "_law_a", "_law_b"]) (caps := ["_law_prices"]) (js := [7]) rfl capsC2 (pi_list (pv 6)) (fun pins C s H1 fp => pg_tup (n := 2) rfl (pgs_cons (pg_name (i := 1) nd_compC2 rfl (Or.inl rfl) (Or.inr rfl)) (pgs_cons (pg_name (i := 2) nd_compC2 rfl (Or.inl rfl) (Or.inr rfl)) pgs_nil))) (fun pins C s H1 fp => pts_nil) (fun pins C s H1 fp => pe_call G1 hr rfl m1 k1 b1 .nil pass0 (pa_cons (pv 3) (pa_cons (pv 1) (pa_cons (pv 2) pa_nil))))
  case b2 =>
    refine' ps_set (i := 9) scLaw.nd rfl (Or.inl rfl) (pe_callB (call_allB rfl) (by rfl) G.gall boot_all (pa_cons ?cc pa_nil))
    case cc => exact pe_comp (g := gTup K 2 (gCons (gName 1) (gCons (gName 2) gNil))) (own := [".0", "_law_some", "_law_price"]) (caps := ["_law_pairs"]) (js := [6]) rfl capsN (pi_list (pv 4)) (fun pins C s H1 fp => pg_tup (n := 2) rfl (pgs_cons (pg_name (i := 1) nd_compN rfl (Or.inl rfl) (Or.inr rfl)) (pgs_cons (pg_name (i := 2) nd_compN rfl (Or.inl rfl) (Or.inr rfl)) pgs_nil))) (fun pins C s H1 fp => pts_nil) (fun pins C s H1 fp => pe_cmpR op_eq (pe_call G2 hr1 rfl m2 k2 b2 .nil pass0 (pa_cons (pv 1) (pa_cons (pv 3) pa_nil))) pe_int (nomark _))
  case b3 => exact ps_if (pw_or (pt_cmpR op_lt (pv 8) (pe_call G3 hr (by rfl) m3 k3 b3 .nil pass0 (pa_cons (pv 7) pa_nil)) (nomark _)) (pw_or1 (pt_cmpR op_ne (pe_cmpR op_eq (pv 8) (pe_call G3 hr (by rfl) m3 k3 b3 .nil pass0 (pa_cons (pv 7) pa_nil)) (nomark _)) (pv 9) (nomark _)))).pt (pss_one (ps_ret pe_bl)) pss_nil
  rintro D σ H1 ⟨a, t0, s0, l0, p0, h, n, t, o, qs, rs, ss, e7, e8, e9, e10, e11, rfl, kn, k⟩
  refine ⟨_, rfl, _, _, rfl, rfl, (by show (0 : Int) < 2; decide), rfl, _, rfl, ?_⟩
  refine ite2 (fun ev => ?_) (fun _ => k _ _ _ H1 (Same.refl _))
  have ev : n % 2 = 0 := by have := of_decide_eq_true ev; injection this
  have n0 := kn.n0
  have n1 := kn.n1
  have ls := kn.ls
  have lp := kn.len
  refine ⟨_, rfl, t0, _, rfl, .inl (SqL.of kn.ht), fun l1 h1 => ?_⟩
  have s1 : Same H1 (upd H1 l1 (.lst (t.map V.int))) := Same.new' h1
  have hl1 : upd H1 l1 (.lst (t.map V.int)) l1 = some (.lst (t.map V.int)) := upd_same
  generalize upd H1 l1 (.lst (t.map V.int)) = H2 at s1 hl1 ⊢
  have kn2 := kn.same s1
  refine ⟨_, rfl, s0, rfl, ⟨_, SqL.of kn2.hs⟩, fun D2 hD => ?_⟩
  refine turns_copy (K := K) (cs := []) kn2.hs kn2.hS (by omega) (fun z hz => (kn.td z hz).ne) hD (fun z hz m e0 H4 κ s4 hm kk => ?_) (fun zs H5 s5 h5 hz => ?_)
  · refine ⟨_, rfl, m, _, rfl, .inl (SqL.of hm), fun m2 hm2 => ⟨_, rfl, (by show 2 ≤ sizeLine; decide), fun r hr' => ?_⟩⟩
    have s6 : Same H4 (upd H4 m2 (.lst (z.1.map V.int))) := Same.new' hm2
    exact kk r _ (s6.trans (Same.new' hr')) ⟨m2, upd_same, (Same.new' hr') m2 _ upd_same⟩
  refine ⟨(by show 3 ≤ sizeLine; decide), fun pr hpr => ?_⟩
  have s6 : Same H5 (upd H5 pr (.tup [.int 1, .ref l1, .ref D2])) := Same.new' hpr
  have hp6 : PriH (upd H5 pr (.tup [.int 1, .ref l1, .ref D2])) pr 1 t ss := ⟨l1, D2, zs, upd_same, s6 _ _ (s5 _ _ hl1), s6 _ _ h5, SetsH.same hz s6⟩
  generalize upd H5 pr (.tup [.int 1, .ref l1, .ref D2]) = H6 at s6 hp6 ⊢
  have s16 := s1.trans (s5.trans s6)
  have kn6 := kn.same s16
  dsimp only [gName, List.set_cons_succ, List.set_cons_zero]
  refine ⟨_, rfl, p0, rfl, ⟨_, SqL.of kn6.hp⟩, fun D3 hD3 => ?_⟩
  refine turns_prs (K := K) (cs := [some (.ref pr)]) (fun p => vlC t ss p.1 p.2) kn6.hp kn6.hP (by omega) hD3 (fun p hp e0 H7 κ s7 kk => ?_) (fun H7 s7 h7 => ?_)
  · obtain ⟨a0, a1, c0, c1⟩ := kn.pt hp
    have lt := kn.lt
    exact ⟨_, rfl, _, rfl, _, rfl, pr, 1, t, ss, p.1, p.2, rfl, hp6.same s7, by omega, a0, by omega, c0, by omega, kk⟩
  refine ⟨D3, _, rfl, SqL.of h7, ?_⟩
  have s17 := s16.trans s7
  have kn7 := kn.same s17
  dsimp only [gName, List.set_cons_succ, List.set_cons_zero]
  refine ⟨_, rfl, s0, rfl, ⟨_, SqL.of kn7.hs⟩, fun D4 hD4 => ?_⟩
  refine turns_setsB (K := K) (cs := [some (.ref p0)]) (fun z => decide (V.int ((out (prp o) z : Nat) : Int) = V.int 1)) kn7.hs kn7.hS (by omega) hD4 (fun z hz m e0 H8 κ s8 hm kk => ?_) (fun H8 s8 h8 => ?_)
  · have kn8 := kn7.same s8
    exact ⟨_, rfl, _, rfl, m, p0, z, rs, _, rfl, hm, (kn.td z hz).1.nd, kn8.hp, kn8.hP, by omega, fun H9 s9 => ⟨rfl, kk H9 s9⟩⟩
  refine ⟨D4, _, rfl, SqL.of h8, ?_⟩
  have s18 := s17.trans s8
  have hp8 := hp6.same (s7.trans s8)
  have lz : ∀ z ∈ ss, z.1.length ≤ 900 := fun z hz => by have := (kn.td z hz).1.len; omega
  have ev' : n.toNat % 2 = 0 := by omega
  have pe := paid_eq kn.po ev' kn.lt ss
  have ok : ∀ z ∈ ss, 0 < z.2 ∧ 1 ≤ out (prp o) z := fun z hz => ⟨(kn.td z hz).2.2, out_odd kn.po (kn.td z hz) ev'⟩
  have le := over_le (out (prp o)) ss ok
  have eq := over_eq (out (prp o)) ss ok
  have ecs : vlCS t ss = t.sum + (ss.map (·.2)).sum := rfl
  dsimp only [gName, List.set_cons_succ, List.set_cons_zero]
  refine ⟨_, rfl, _, rfl, pr, 1, t, ss, rfl, hp8, by omega, lz, fun H9 s9 => ⟨_, _, rfl, rfl, _, rfl, ?_⟩⟩
  rw [decide_eq_false (show ¬ ((prp o).map fun p => vlC t ss p.1 p.2).sum < vlCS t ss by omega)]
  refine iteF ?_
  refine ⟨_, rfl, _, rfl, pr, 1, t, ss, rfl, hp8.same s9, by omega, lz, fun H10 s10 => ⟨rfl, _, rfl, rfl, _, rfl, ?_⟩⟩
  refine iteNS ?_ ?_
  · congr 1
    rw [Bool.eq_iff_iff, decide_eq_true_iff, List.all_eq_true]
    constructor
    · intro q b hb
      injection q with q
      obtain ⟨z, hz, rfl⟩ := List.mem_map.mp hb
      have := eq.mp (by omega) z hz
      show decide _ = true
      rw [decide_eq_true_iff, this]
      rfl
    · intro q
      have q2 : ∀ z ∈ ss, out (prp o) z = 1 := fun z hz => by
        have := q _ (List.mem_map.mpr ⟨z, hz, rfl⟩)
        have := of_decide_eq_true (show decide _ = true from this)
        injection this with this
        omega
      have := eq.mpr q2
      congr 1
      omega
  · exact k _ _ _ H10 (s18.trans (s9.trans s10))
end
end
end K52

/-! ### k52: the rest of the law -/
namespace K52
open PySem L2 PyProof.Rows
section
variable {P : Program} {w : World} {K : PySem.W.Frag} {mg : Str → Option Value} {base : Heap}
section
variable {f : Addr} {cdv : Value} {A : Around} {outer : List Env} {s : Shared} {H : Hp} {E : XK}
def absV (i : Int) : Int := if i < 0 then -i else i
theorem absV_nn (i : Int) : 0 ≤ absV i := by
  unfold absV
  split <;> omega
/-- the prices, none of a point below nought -/
def tGood : TS := fun D σ H => ∃ (t0 s0 p0 : Addr) (n : Int) (t o : List Int) (qs rs : List Addr) (ss : List (List Int × Int)), σ[3]? = some (some (.ref t0)) ∧ σ[4]? = some (some (.ref s0)) ∧ Kn H t0 s0 p0 n t o qs rs ss ∧
  ∀ (p : Addr) (H' : Hp), Same H H' → PriH H' p 1 (t.map absV) ss → D.nx (σ.set 10 (some (.ref p))) H'
theorem ok_good (G : CallsL P w K mg base) : PS (XL P w K mg base f cdv A outer s H E) (lawAt 7) tGood := by
  refine' PS.imp (t' := tGood) (ps_set (i := 10) scLaw.nd rfl (Or.inr rfl) (pe_tup (pa_cons pe_int (pa_cons ?ca (pa_cons ?cc pa_nil))))) ?_
  case ca => exact pe_comp (g := gName 1) (own := [".0", "_law_price"]) (cl := []) (caps := []) (js := []) rfl (caps0 rfl rfl (by decide +kernel) (by decide +kernel)) (pi_list (pv 3)) (fun pins C s H1 fp => pg_name (i := 1) nd_ownA rfl (Or.inl rfl) (Or.inr rfl)) (fun pins C s H1 fp => pts_nil) (fun pins C s H1 fp => pe_callB call_abs (by rfl) G.gabs boot_abs (pa_cons (pv 1) pa_nil))
  case cc => exact pe_comp (g := gTup K 2 (gCons (gName 1) (gCons (gName 2) gNil))) (own := [".0", "_law_some", "_law_price"]) (cl := []) (caps := []) (js := []) rfl (caps0 rfl rfl (by decide +kernel) (by decide +kernel)) (pi_list (pv 4)) (fun pins C s H1 fp => pg_tup (n := 2) rfl (pgs_cons (pg_name (i := 1) nd_ownC rfl (Or.inl rfl) (Or.inr rfl)) (pgs_cons (pg_name (i := 2) nd_ownC rfl (Or.inl rfl) (Or.inr rfl)) pgs_nil))) (fun pins C s H1 fp => pts_nil) (fun pins C s H1 fp => pe_tup (pa_cons (pe_callTy (call_listK K rfl) (by rfl) G.lst boot_list (pa_cons (pv 1) pa_nil)) (pa_cons (pv 2) pa_nil)))
  rintro D σ H1 ⟨t0, s0, p0, n, t, o, qs, rs, ss, e3, e4, kn, k⟩
  have n1 := kn.n1
  have lt := kn.lt
  have ls := kn.ls
  refine ⟨_, e3, t0, rfl, ⟨_, SqL.of kn.ht⟩, fun l1 hl1 => ?_⟩
  refine turns_list (K := K) (a := t0) (xs := t.map V.int) (fun i ys σ H5 => ∃ (e0 e1 : Option V), ys = ((t.take i).map absV).map V.int ∧ σ = [e0, e1] ∧ Same H1 H5 ∧ H5 l1 = some (.lst ys)) ⟨none, none, rfl, rfl, Same.new' hl1, upd_same⟩ ?_ ?_ ?_
  · rintro i ys σ H5 ⟨e0, e1, rfl, rfl, s5, h5⟩
    refine ⟨h5, small1000 ?_, SqL.of (s5 t0 _ kn.ht)⟩
    rw [List.length_map, List.length_map, List.length_take]
    omega
  · rintro i x ys σ H5 hi ⟨e0, e1, rfl, rfl, s5, h5⟩
    have hil : i < (t.map V.int).length := (List.getElem?_eq_some_iff.mp hi).1
    obtain ⟨y, rfl, ey⟩ := map_int_at hi
    unfold gName
    dsimp only
    refine yes_of ⟨_, rfl, y, rfl, h5, Nxt.mk hil ⟨_, _, ?_, rfl, fun b o e => ?_, upd_same⟩⟩
    · rw [List.take_succ, ey, List.map_append, List.map_append]; rfl
    · rw [upd_ne (ne_of_none e hl1)]; exact s5 b o e
  rintro ys σ0 H2 ⟨e0, e1, rfl, rfl, s2, h2⟩
  rw [List.length_map, List.take_length] at h2
  have kn2 := kn.same s2
  refine ⟨_, e4, s0, rfl, ⟨_, SqL.of kn2.hs⟩, fun D2 hD => ?_⟩
  refine turns_copy (K := K) (cs := []) kn2.hs kn2.hS (by omega) (fun z hz => (kn.td z hz).ne) hD (fun z hz m e0 H4 κ s4 hm kk => ?_) (fun zs H5 s5 h5 hz => ?_)
  · refine ⟨_, rfl, m, _, rfl, .inl (SqL.of hm), fun m2 hm2 => ⟨_, rfl, (by show 2 ≤ sizeLine; decide), fun r hr' => ?_⟩⟩
    have s6 : Same H4 (upd H4 m2 (.lst (z.1.map V.int))) := Same.new' hm2
    exact kk r _ (s6.trans (Same.new' hr')) ⟨m2, upd_same, (Same.new' hr') m2 _ upd_same⟩
  refine ⟨(by show 3 ≤ sizeLine; decide), fun pr hpr => ?_⟩
  have s6 : Same H5 (upd H5 pr (.tup [.int 1, .ref l1, .ref D2])) := Same.new' hpr
  exact k pr _ (s2.trans (s5.trans s6)) ⟨l1, D2, zs, upd_same, s6 _ _ (s5 _ _ h2), s6 _ _ h5, SetsH.same hz s6⟩
/-- some of the pairs -/
def tFew : TS := fun D σ H => ∃ (h : Int) (p0 : Addr) (rs : List Addr) (Z : List (Int × Int)), σ[1]? = some (some (.int h)) ∧ σ[6]? = some (some (.ref p0)) ∧ H p0 = some (.lst (rs.map V.ref)) ∧ PrH H rs Z ∧ Z.length ≤ 900 ∧
  ∀ (l : Addr) (zs : List Addr) (F : List (Int × Int)) (H' : Hp), Same H H' → H' l = some (.lst (zs.map V.ref)) → PrH H' zs F → F.Sublist Z → D.nx (σ.set 11 (some (.ref l))) H'
theorem ok_few (G : CallsL P w K mg base) : PS (XL P w K mg base f cdv A outer s H E) (lawAt 8) tFew := by
  refine' PS.imp (t' := tFew) (ps_comp (i := 11) (g := gTup K 2 (gCons (gName 1) (gCons (gName 2) gNil))) (own := [".0", "_law_k", "_law_pair"]) (caps := ["_law_head"]) (js := [1]) rfl capsH (pi_enum rfl G.genu (pa_cons (pv 6) pa_nil)) (fun pins C s H1 fp => pg_tup (n := 2) rfl (pgs_cons (pg_name (i := 1) nd_compH rfl (Or.inl rfl) (Or.inr rfl)) (pgs_cons (pg_name (i := 2) nd_compH rfl (Or.inl rfl) (Or.inr rfl)) pgs_nil))) (fun pins C s H1 fp => pts_one (pt_cmpR op_eq (pe_op op_and (pe_op op_shr (pe_op op_fdiv (pv 3) pe_int) (pv 1)) pe_int) pe_int (nomark _))) (fun pins C s H1 fp => pv 2) scLaw.nd rfl rfl rfl) ?_
  rintro D σ H1 ⟨h, p0, rs, Z, e1, e6, hp, hZ, lZ, k⟩
  have lq := Paired.length hZ
  refine ⟨_, e6, p0, rfl, ⟨_, SqL.of hp⟩, fun D2 hD => ?_⟩
  have eC : σC ([".0", "_law_k", "_law_pair"] : List Str).length [1] σ = [none, none, none, some (.int h)] := by
    show [none, none, none, (σ[1]?).getD none] = _
    rw [e1]
    rfl
  rw [eC]
  refine turns_enum (K := K) (a := p0) (xs := rs.map V.ref) (fun i ys σ H5 => ∃ (zs : List Addr) (F : List (Int × Int)) (e0 e1 e2 : Option V), ys = zs.map V.ref ∧ F.Sublist (Z.take i) ∧ σ = [e0, e1, e2, some (.int h)] ∧ Same H1 H5 ∧ H5 D2 = some (.lst ys) ∧ PrH H5 zs F) ⟨[], [], none, none, none, rfl, List.nil_sublist _, rfl, Same.new' hD, upd_same, .nil⟩ ?_ ?_ ?_
  · rintro i ys σ H5 ⟨zs, F, e0, e1, e2, rfl, hF, rfl, s5, h5, hz⟩
    refine ⟨h5, small1000 ?_, SqL.of (s5 p0 _ hp)⟩
    have h1 := Paired.length hz
    have h2 := hF.length_le
    rw [List.length_take] at h2
    rw [List.length_map]
    omega
  · rintro i x q ys σ H5 hi ⟨zs, F, e0, e1, e2, rfl, hF, rfl, s5, h5, hz⟩ hq
    have hil : i < (rs.map V.ref).length := (List.getElem?_eq_some_iff.mp hi).1
    obtain ⟨r, y, rfl, ey, _, hr⟩ := pr_at (PrH.same hZ s5) hi
    have s6 : Same H5 (upd H5 q (.tup [.int i, .ref r])) := Same.new' hq
    have hq6 : upd H5 q (.tup [.int i, .ref r]) q = some (.tup [.int i, .ref r]) := upd_same
    generalize upd H5 q (.tup [.int i, .ref r]) = H6 at s6 hq6 ⊢
    have s06 := s5.trans s6
    refine ⟨q, _, rfl, SqT.of hq6, rfl, _, _, rfl, _, _, rfl, rfl, ?_⟩
    dsimp only [gName, List.set_cons_succ, List.set_cons_zero]
    refine ⟨_, rfl, _, _, rfl, rfl, ⟨by decide, by decide⟩, _, rfl, _, _, rfl, rfl, (by show (0 : Int) ≤ (i : Int); omega), _, _, rfl, rfl, rfl, _, rfl, ?_⟩
    refine ite2 (fun _ => ?_) (fun _ => ?_)
    · refine ⟨_, rfl, s6 D2 _ h5, Nxt.mk hil ⟨zs ++ [r], F ++ [y], _, _, _, by rw [List.map_append]; rfl, ?_, rfl, fun b o e => ?_, upd_same, ?_⟩⟩
      · rw [List.take_succ, ey]
        exact hF.append (List.Sublist.refl _)
      · rw [upd_ne (ne_of_none e hD)]; exact s06 b o e
      · exact PrH.kp (paired_snoc (PrH.same hz s6) (s6 r _ hr)) (Kp.upd (s6 D2 _ h5))
    · refine Nxt.mk hil ⟨zs, F, _, _, _, rfl, ?_, rfl, s06, s6 D2 _ h5, PrH.same hz s6⟩
      rw [List.take_succ]
      exact hF.trans (List.sublist_append_left _ _)
  · rintro ys σ0 H5 ⟨zs, F, e0, e1, e2, rfl, hF, rfl, s5, h5, hz⟩
    rw [List.length_map, lq, List.take_length] at hF
    exact k D2 zs F H5 s5 h5 hz hF
end
theorem ok_law {f : Addr} {fd : FuncData} (F : Fun K "law" "law" sLaw f fd) (G : CallsL P w K mg base) : FnOk P w K mg base CX0 3 f fd ["_law_script"] (spLaw K) := by
  obtain ⟨f1, fd1, m1, k1, G1, b1⟩ := G.cel
  obtain ⟨f2, fd2, m2, k2, G2, b2⟩ := G.sts
  obtain ⟨f3, fd3, m3, k3, G3, b3⟩ := G.ord
  obtain ⟨f4, fd4, m4, k4, G4, b4⟩ := G.inn
  obtain ⟨f5, fd5, m5, k5, G5, b5⟩ := G.ism
  refine F.ok scLaw (fun vs H Q E h => ?_) (fun cdv A outer s H vs Q E hr h => ?_)
  · obtain ⟨a, ns, rfl, _⟩ := h
    rfl
  · obtain ⟨a, ns, rfl, hS, hns, hQ⟩ := h
    have hr1 : Room 1 (XL P w K mg base f cdv A outer s H E).A := hr.mono (by decide)
    have hr2 : Room 2 (XL P w K mg base f cdv A outer s H E).A := hr
    refine' ⟨_, pss_cons ?s0 (pss_cons ?s1 (pss_cons (ok_pts G hr1) (pss_cons ?s3 (pss_cons ?s4 (pss_cons (ok_prs G) (pss_cons (ok_even G hr2) (pss_cons (ok_good G) (pss_cons (ok_few G) (pss_one ?s9))))))))), ?_⟩
    case s0 => exact ps_set (i := 1) scLaw.nd rfl (Or.inr rfl) (pe_op op_mod (pe_call G1 hr1 rfl m1 k1 b1 .nil pass0 (pa_cons (pv 0) (pa_cons pe_int pa_nil))) pe_int)
    case s1 => exact ps_set (i := 2) scLaw.nd rfl (Or.inl rfl) (pe_op op_mod (pv 1) pe_int)
    case s3 => exact ps_set (i := 4) scLaw.nd rfl (Or.inl rfl) (pe_call G2 hr2 rfl m2 k2 b2 .nil pass0 (pa_cons (pv 0) (pa_cons (pv 2) pa_nil)))
    case s4 => exact ps_set (i := 5) scLaw.nd rfl (Or.inr rfl) (pe_call G3 hr2 rfl m3 k3 b3 .nil pass0 (pa_cons (pv 0) (pa_cons (pv 2) pa_nil)))
    case s9 =>
      refine' ps_ret (pe_cmpR op_le (pe_callB (call_sumI rfl) (by rfl) G.gsum boot_sum (pa_cons ?cc pa_nil)) (pe_call G5 hr2 (by rfl) m5 k5 b5 .nil pass0 (pa_cons (pv 10) pa_nil)) (nomark _))
      case cc => exact pe_comp (g := gTup K 2 (gCons (gName 1) (gCons (gName 2) gNil))) (own := [".0", "_law_a", "_law_b"]) (caps := ["_law_good"]) (js := [10]) rfl capsG (pi_list (pv 11)) (fun pins C s H1 fp => pg_tup (n := 2) rfl (pgs_cons (pg_name (i := 1) nd_compG rfl (Or.inl rfl) (Or.inr rfl)) (pgs_cons (pg_name (i := 2) nd_compG rfl (Or.inl rfl) (Or.inr rfl)) pgs_nil))) (fun pins C s H1 fp => pts_nil) (fun pins C s H1 fp => pe_call G4 hr rfl m4 k4 b4 .nil pass0 (pa_cons (pv 3) (pa_cons (pv 1) (pa_cons (pv 2) pa_nil))))
    refine ⟨_, rfl, a, ns, _, rfl, by decide, hS, fun c0 => ⟨_, _, rfl, rfl, (by show (0 : Int) < 1000003; decide), ?_⟩⟩
    dsimp only [gName, List.set_cons_succ, List.set_cons_zero]
    generalize c0 % 1000003 = hd
    refine ⟨_, rfl, _, _, rfl, rfl, (by show (0 : Int) < 13; decide), ?_⟩
    have n0 := Int.emod_nonneg hd (show (13 : Int) ≠ 0 by decide)
    have n1 := Int.emod_lt_of_pos hd (show (0 : Int) < 13 by decide)
    dsimp only [gName, List.set_cons_succ, List.set_cons_zero]
    generalize hd % 13 = n at n0 n1 ⊢
    refine ⟨a, ns, n, rfl, rfl, hS, n0, by omega, fun t0 t H1 s1 ht lt => ?_⟩
    dsimp only [List.set_cons_succ, List.set_cons_zero]
    refine ⟨_, rfl, _, rfl, a, n, ns, rfl, s1.seq hS, hns, n0, by omega, fun s0 qs ss H2 _ s2 hs hSs tq ln => ?_⟩
    dsimp only [gName, List.set_cons_succ, List.set_cons_zero]
    refine ⟨_, rfl, _, rfl, a, n, ns, rfl, (s1.trans s2).seq hS, n0, by omega, fun l0 o H3 s3 hl po => ?_⟩
    dsimp only [gName, List.set_cons_succ, List.set_cons_zero]
    have lo : o.length = n.toNat := by rw [po.length_eq, upto_len]
    refine ⟨l0, o, n, rfl, rfl, hl, n0, by omega, lo, fun p0 rs H4 s4 hp hP => ?_⟩
    dsimp only [List.set_cons_succ, List.set_cons_zero]
    have s24 := s3.trans s4
    have kn : Kn H4 t0 s0 p0 n t o qs rs ss := ⟨s24 _ _ (s2 _ _ ht), s24 _ _ hs, hp, SetsH.same hSs s24, hP, n0, by omega, lt, po, tq, ln⟩
    refine ⟨a, t0, s0, l0, p0, _, n, t, o, qs, rs, ss, _, _, _, _, _, rfl, kn, fun e7 e8 e9 H5 s5 => ?_⟩
    have kn5 := kn.same s5
    refine ⟨t0, s0, p0, n, t, o, qs, rs, ss, rfl, rfl, kn5, fun pg H6 s6 hpg => ?_⟩
    dsimp only [List.set_cons_succ, List.set_cons_zero]
    have kn6 := kn5.same s6
    have lp := kn.len
    refine ⟨_, p0, rs, prp o, rfl, rfl, kn6.hp, kn6.hP, by omega, fun lf zs F H7 s7 hf hF sF => ?_⟩
    dsimp only [List.set_cons_succ, List.set_cons_zero]
    have hpg7 := hpg.same s7
    have lF := sF.length_le
    have lta : (t.map absV).length = n.toNat := by rw [List.length_map, lt]
    refine ⟨_, rfl, lf, rfl, ⟨_, SqL.of hf⟩, fun D hD => ?_⟩
    refine turns_prs (K := K) (cs := [some (.ref pg)]) (fun p => vlI (t.map absV) ss p.1 p.2) hf hF (by omega) hD (fun p hp e0 H8 κ s8 kk => ?_) (fun H8 s8 h8 => ?_)
    · obtain ⟨a0, a1, c0, c1⟩ := kn.pt (sF.subset hp)
      exact ⟨_, rfl, _, rfl, _, rfl, pg, 1, t.map absV, ss, p.1, p.2, rfl, hpg7.same s8, by omega, a0, by omega, c0, by omega, kk⟩
    · refine ⟨D, _, rfl, SqL.of h8, _, rfl, pg, 1, t.map absV, ss, rfl, hpg7.same s8, by omega, fun z hz => (by have := (tq z hz).1.len; omega), fun H9 s9 => ⟨_, _, rfl, rfl, ?_⟩⟩
      have le := fewer_le po lta (fun x hx => by obtain ⟨y, _, rfl⟩ := List.mem_map.mp hx; exact absV_nn y) tq sF
      dsimp only
      rw [decide_eq_true le]
      exact hQ H9
end
end K52

/-! ### k52: all of it from the top -/
namespace K52
open PySem L2 PyProof.Rows
/-- a def of the top -/
def DefAt (K : PySem.W.Frag) (mg : Str → Option Value) (x : Str) (st : Stmt) : Prop := ∃ f fd, mg x = some (.ref f) ∧ Fun K x x st f fd
theorem def_mk {K : PySem.W.Frag} {mg : Str → Option Value} {h : Heap} {x : Str} {st : Stmt} {f : Addr} {oc : Value} {od an : Option Addr} {osl : Array (Option Value)} {kV doc pm cdv ct : Value} (X : K.In h) (G : h.Ns mainGlobals mg)
    (a : PySem.W.nsIn K mainGlobals x = some (some (.ref f))) (l : K.lookup f = some ⟨oc, od, .func (PySem.W.fnOf x x (defArgs st) (defBody st) (defScope st) .none kV doc pm an cdv ct), osl⟩)
    (c : PySem.W.codeIn K cdv x = true) (k : PySem.W.keepIn K (.ref f) = true) : DefAt K mg x st := ⟨f, _, PySem.W.mg_of X G a, fun_mk l c k⟩
theorem len0 {us : List Value} (h : us.length = 0) : us = [] := List.length_eq_zero_iff.mp h
theorem len1 {us : List Value} (h : us.length = 1) : ∃ a0, us = [a0] := by
  cases us with
  | nil => exact absurd h (by decide)
  | cons a t => exact ⟨a, by rw [len0 (Nat.succ.inj h)]⟩
theorem len2 {us : List Value} (h : us.length = 2) : ∃ a0 a1, us = [a0, a1] := by
  cases us with
  | nil => exact absurd h (Nat.succ_ne_zero _).symm
  | cons a t =>
    obtain ⟨b0, e⟩ := len1 (Nat.succ.inj h)
    exact ⟨a, b0, by rw [e]⟩
theorem len3 {us : List Value} (h : us.length = 3) : ∃ a0 a1 a2, us = [a0, a1, a2] := by
  cases us with
  | nil => exact absurd h (Nat.succ_ne_zero _).symm
  | cons a t =>
    obtain ⟨b0, b1, e⟩ := len2 (Nat.succ.inj h)
    exact ⟨a, b0, b1, by rw [e]⟩
theorem calls_mk {P : Program} {w : World} {K : PySem.W.Frag} {mg : Str → Option Value} {base : Heap}
    (g_list : mg "list" = none) (g_len : mg "len" = none) (g_range : mg "range" = none) (g_sum : mg "sum" = none) (g_all : mg "all" = none) (g_abs : mg "abs" = none) (g_enumerate : mg "enumerate" = none)
    
    (d0 : DefAt K mg "has_both" sBoth) (d1 : DefAt K mg "has_just_one" sOne) (d2 : DefAt K mg "most_within" sWithin) (d3 : DefAt K mg "cut_price" sCut) (d4 : DefAt K mg "inner_price" sInner) (d5 : DefAt K mg "cut_sum" sCutSum) (d6 : DefAt K mg "inner_sum" sInnerSum) (d7 : DefAt K mg "_law_cell_at" sCell) (d8 : DefAt K mg "_law_heavy" sHeavy) (d9 : DefAt K mg "_law_set" sSet) (d10 : DefAt K mg "_law_sets" sSets) (d11 : DefAt K mg "_law_order" sOrder) (d12 : DefAt K mg "_law_out_of" sOut) : CallsL P w K mg base := by
  obtain ⟨f0, fd0, m0, F0⟩ := d0
  obtain ⟨f1, fd1, m1, F1⟩ := d1
  obtain ⟨f2, fd2, m2, F2⟩ := d2
  obtain ⟨f3, fd3, m3, F3⟩ := d3
  obtain ⟨f4, fd4, m4, F4⟩ := d4
  obtain ⟨f5, fd5, m5, F5⟩ := d5
  obtain ⟨f6, fd6, m6, F6⟩ := d6
  obtain ⟨f7, fd7, m7, F7⟩ := d7
  obtain ⟨f8, fd8, m8, F8⟩ := d8
  obtain ⟨f9, fd9, m9, F9⟩ := d9
  obtain ⟨f10, fd10, m10, F10⟩ := d10
  obtain ⟨f11, fd11, m11, F11⟩ := d11
  obtain ⟨f12, fd12, m12, F12⟩ := d12
  have b0 := F0.binds (ps := ["members", "a", "b"]) fun _ _ _ _ _ _ us hl => by obtain ⟨a0, a1, a2, rfl⟩ := len3 hl; rfl
  have b1 := F1.binds (ps := ["members", "a", "b"]) fun _ _ _ _ _ _ us hl => by obtain ⟨a0, a1, a2, rfl⟩ := len3 hl; rfl
  have b2 := F2.binds (ps := ["members"]) fun _ _ _ _ _ _ us hl => by obtain ⟨a0, rfl⟩ := len1 hl; rfl
  have b3 := F3.binds (ps := ["prices", "a", "b"]) fun _ _ _ _ _ _ us hl => by obtain ⟨a0, a1, a2, rfl⟩ := len3 hl; rfl
  have b4 := F4.binds (ps := ["prices", "a", "b"]) fun _ _ _ _ _ _ us hl => by obtain ⟨a0, a1, a2, rfl⟩ := len3 hl; rfl
  have b5 := F5.binds (ps := ["prices"]) fun _ _ _ _ _ _ us hl => by obtain ⟨a0, rfl⟩ := len1 hl; rfl
  have b6 := F6.binds (ps := ["prices"]) fun _ _ _ _ _ _ us hl => by obtain ⟨a0, rfl⟩ := len1 hl; rfl
  have b7 := F7.binds (ps := ["_law_script", "_law_k"]) fun _ _ _ _ _ _ us hl => by obtain ⟨a0, a1, rfl⟩ := len2 hl; rfl
  have b8 := F8.binds (ps := ["_law_cell"]) fun _ _ _ _ _ _ us hl => by obtain ⟨a0, rfl⟩ := len1 hl; rfl
  have b9 := F9.binds (ps := ["_law_cell", "_law_many"]) fun _ _ _ _ _ _ us hl => by obtain ⟨a0, a1, rfl⟩ := len2 hl; rfl
  have b10 := F10.binds (ps := ["_law_script", "_law_many"]) fun _ _ _ _ _ _ us hl => by obtain ⟨a0, a1, rfl⟩ := len2 hl; rfl
  have b11 := F11.binds (ps := ["_law_script", "_law_many"]) fun _ _ _ _ _ _ us hl => by obtain ⟨a0, a1, rfl⟩ := len2 hl; rfl
  have b12 := F12.binds (ps := ["_law_some", "_law_pairs"]) fun _ _ _ _ _ _ us hl => by obtain ⟨a0, a1, rfl⟩ := len2 hl; rfl
  have G0 := ok_both (P := P) (w := w) (mg := mg) (base := base) F0
  have G1 := ok_one (P := P) (w := w) (mg := mg) (base := base) F1
  have G2 := ok_within (P := P) (w := w) (mg := mg) (base := base) F2 g_len
  have G3 := ok_cut_price (P := P) (w := w) (mg := mg) (base := base) F3 g_sum G1 m1 F1.kp b1
  have G4 := ok_inner_price (P := P) (w := w) (mg := mg) (base := base) F4 g_sum G0 m0 F0.kp b0
  have G5 := ok_cut_sum (P := P) (w := w) (mg := mg) (base := base) F5 g_sum
  have G6 := ok_inner_sum (P := P) (w := w) (mg := mg) (base := base) F6 g_sum G2 m2 F2.kp b2
  have G7 := ok_cell (P := P) (w := w) (mg := mg) (base := base) F7 g_len
  have G8 := ok_heavy (P := P) (w := w) (mg := mg) (base := base) F8
  have G9 := ok_set (P := P) (w := w) (mg := mg) (base := base) F9 g_range g_len
  have G10 := ok_sets (P := P) (w := w) (mg := mg) (base := base) F10 g_len G9 m9 F9.kp b9
  have G11 := ok_order (P := P) (w := w) (mg := mg) (base := base) F11 g_range G7 m7 F7.kp b7
  have G12 := ok_out (P := P) (w := w) (mg := mg) (base := base) F12 g_len
  exact ⟨g_list, g_range, g_sum, g_all, g_abs, g_enumerate, ⟨f7, fd7, m7, F7.kp, G7, b7⟩, ⟨f8, fd8, m8, F8.kp, G8, b8⟩, ⟨f10, fd10, m10, F10.kp, G10, b10⟩, ⟨f11, fd11, m11, F11.kp, G11, b11⟩, ⟨f12, fd12, m12, F12.kp, G12, b12⟩, ⟨f3, fd3, m3, F3.kp, G3, b3⟩, ⟨f4, fd4, m4, F4.kp, G4, b4⟩, ⟨f5, fd5, m5, F5.kp, G5, b5⟩, ⟨f6, fd6, m6, F6.kp, G6, b6⟩⟩
theorem law_mk {P : Program} {w : World} {K : PySem.W.Frag} {mg : Str → Option Value} {fa : Addr} (hmg : mg "law" = some (.ref fa)) (d : DefAt K mg "law" sLaw) (G : ∀ base : Heap, CallsL P w K mg base) :
    ∃ fd : FuncData, (∀ (s : Shared) (u : Value), BindsTo s fd ⟨[u], []⟩ [("_law_script", u)]) ∧ ∀ base : Heap, K.In base → base.Ns mainGlobals mg → FnOk P w K mg base CX0 3 fa fd ["_law_script"] (spLaw K) := by
  obtain ⟨f, fd, m, F⟩ := d
  cases hmg.symm.trans m
  obtain ⟨oc, od, kV, doc, pm, an, cdv, ct, osl, rfl, l, c⟩ := F.ex
  exact ⟨_, fun s u => .of_eq rfl, fun base _ _ => ok_law F (G base)⟩
theorem all_mk {P : Program} {w : World} {K : PySem.W.Frag} {mg : Str → Option Value} {h : Heap} {fa : Addr} (X : K.In h) (G : h.Ns mainGlobals mg) (hmg : mg "law" = some (.ref fa))
    (z0 : PySem.W.nsIn K mainGlobals "list" = some none) (z1 : PySem.W.nsIn K mainGlobals "len" = some none) (z2 : PySem.W.nsIn K mainGlobals "range" = some none) (z3 : PySem.W.nsIn K mainGlobals "sum" = some none) (z4 : PySem.W.nsIn K mainGlobals "all" = some none) (z5 : PySem.W.nsIn K mainGlobals "abs" = some none) (z6 : PySem.W.nsIn K mainGlobals "enumerate" = some none)
    
    (d0 : DefAt K mg "has_both" sBoth) (d1 : DefAt K mg "has_just_one" sOne) (d2 : DefAt K mg "most_within" sWithin) (d3 : DefAt K mg "cut_price" sCut) (d4 : DefAt K mg "inner_price" sInner) (d5 : DefAt K mg "cut_sum" sCutSum) (d6 : DefAt K mg "inner_sum" sInnerSum) (d7 : DefAt K mg "_law_cell_at" sCell) (d8 : DefAt K mg "_law_heavy" sHeavy) (d9 : DefAt K mg "_law_set" sSet) (d10 : DefAt K mg "_law_sets" sSets) (d11 : DefAt K mg "_law_order" sOrder) (d12 : DefAt K mg "_law_out_of" sOut) (dL : DefAt K mg "law" sLaw) :
    ∃ fd : FuncData, (∀ (s : Shared) (u : Value), BindsTo s fd ⟨[u], []⟩ [("_law_script", u)]) ∧ ∀ base : Heap, K.In base → base.Ns mainGlobals mg → FnOk P w K mg base CX0 3 fa fd ["_law_script"] (spLaw K) := by
  have z := fun {x : Str} (e : PySem.W.nsIn K mainGlobals x = some none) => PySem.W.mg_none_of X G e
  refine law_mk hmg dL fun base => ?_
  exact calls_mk (z z0) (z z1) (z z2) (z z3) (z z4) (z z5) (z z6)  d0 d1 d2 d3 d4 d5 d6 d7 d8 d9 d10 d11 d12 
theorem walk {l : PySem.W.OpenLaw} {q : Program} {loose : List Str} {XP : (Str → Option Value) → Heap → Prop} {YP : World → Heap → Prop} {d : DefRec} {K : Params → PySem.W.Frag} (hn : l.most = some 63) (hdf : d.params.defaults = [])
    (hY : ∀ (w : World) (h : Heap), YP w h → (K w.params).In h)
    (F : ∀ (w : World) (mg : Str → Option Value) (fa : Addr) (h : Heap), (K w.params).In h → h.Ns mainGlobals mg → mg d.name = some (.ref fa) →
      ∃ fd : FuncData, (∀ (s : Shared) (u : Value), BindsTo s fd ⟨[u], []⟩ [("_law_script", u)]) ∧ ∀ base : Heap, (K w.params).In base → base.Ns mainGlobals mg → FnOk l.prog w (K w.params) mg base CX0 3 fa fd ["_law_script"] (spLaw (K w.params))) :
    PySem.W.WalkO q loose XP YP l.row.toRowW d [] (fun f vs => PySem.call f vs) :=
  L2.walk_of (n := 63) (k := 3) (x := "_law_script") (CX := fun _ => CX0) (sp := fun w => spLaw (K w.params)) hn (by decide) hdf ⟨rfl, by decide, by decide⟩ hY F (fun _ _ a ns hl _ hS => ⟨a, ns, rfl, hS, hl, fun _ => rfl⟩) fun _ _ _ _ _ z => z
end K52

open PySem PySem.W PyProof.Rows
set_option maxRecDepth 100000 in
set_option maxHeartbeats 0 in
theorem PySem.Challenge.cw_pairsheath_k52_no_choice_beats_prices_holds : PySem.Challenge.rw_pairsheath_k52_no_choice_beats_prices.Holds := by
  w_on; o_law; k_head; (case hw => w_witness2)
  k_fill
  refine K52.walk (l := PySem.Challenge.rw_pairsheath_k52_no_choice_beats_prices) rfl rfl (fun w h Y => PySem.W.kIn_of Y) ?F
  case F =>
    intro w mg fa h KX G hmg
    refine' K52.all_mk KX G hmg ?z0 ?z1 ?z2 ?z3 ?z4 ?z5 ?z6 ?d0 ?d1 ?d2 ?d3 ?d4 ?d5 ?d6 ?d7 ?d8 ?d9 ?d10 ?d11 ?d12 ?dL
    (case z0 => k_is)
    (case z1 => k_is)
    (case z2 => k_is)
    (case z3 => k_is)
    (case z4 => k_is)
    (case z5 => k_is)
    (case z6 => k_is)
    (case d0 => refine' K52.def_mk KX G ?a ?l ?c ?k; (case a => k_is); (case l => k_is); (case c => k_is); (case k => k_is))
    (case d1 => refine' K52.def_mk KX G ?a ?l ?c ?k; (case a => k_is); (case l => k_is); (case c => k_is); (case k => k_is))
    (case d2 => refine' K52.def_mk KX G ?a ?l ?c ?k; (case a => k_is); (case l => k_is); (case c => k_is); (case k => k_is))
    (case d3 => refine' K52.def_mk KX G ?a ?l ?c ?k; (case a => k_is); (case l => k_is); (case c => k_is); (case k => k_is))
    (case d4 => refine' K52.def_mk KX G ?a ?l ?c ?k; (case a => k_is); (case l => k_is); (case c => k_is); (case k => k_is))
    (case d5 => refine' K52.def_mk KX G ?a ?l ?c ?k; (case a => k_is); (case l => k_is); (case c => k_is); (case k => k_is))
    (case d6 => refine' K52.def_mk KX G ?a ?l ?c ?k; (case a => k_is); (case l => k_is); (case c => k_is); (case k => k_is))
    (case d7 => refine' K52.def_mk KX G ?a ?l ?c ?k; (case a => k_is); (case l => k_is); (case c => k_is); (case k => k_is))
    (case d8 => refine' K52.def_mk KX G ?a ?l ?c ?k; (case a => k_is); (case l => k_is); (case c => k_is); (case k => k_is))
    (case d9 => refine' K52.def_mk KX G ?a ?l ?c ?k; (case a => k_is); (case l => k_is); (case c => k_is); (case k => k_is))
    (case d10 => refine' K52.def_mk KX G ?a ?l ?c ?k; (case a => k_is); (case l => k_is); (case c => k_is); (case k => k_is))
    (case d11 => refine' K52.def_mk KX G ?a ?l ?c ?k; (case a => k_is); (case l => k_is); (case c => k_is); (case k => k_is))
    (case d12 => refine' K52.def_mk KX G ?a ?l ?c ?k; (case a => k_is); (case l => k_is); (case c => k_is); (case k => k_is))
    (case dL => refine' K52.def_mk KX G ?a ?l ?c ?k; (case a => k_is); (case l => k_is); (case c => k_is); (case k => k_is))
