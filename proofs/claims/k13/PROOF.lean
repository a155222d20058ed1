import PyProof.Rows.All
import Wide.All
import OpenK.AllK
import Wide.FinOn
import Lean
import PyProof.EqAt
import PyProof.EqKinds
import PyProof.TupleCall
import PySem.Challenge.RW_pairsheath_k13_whole_web_in_parts
set_option Elab.async false
set_option linter.all false
set_option maxRecDepth 100000
/-! THE HAND LAYER, for ints, bools, texts, own classes, LISTS and tuples (index, slices, in, append, pop ..), calls, loops. Paste it whole ahead of your own text; what your proof does not reach may be deleted. -/
namespace L2
open PySem PySem.Spec PyProof.Rows

/-- a key: an int or a str -/
abbrev Key := Sum Int Str
def keyIs : Key → Value → Bool
  | .inl k, v => Value.isInt k v
  | .inr x, v => Value.isStrOf x v
def keyH (w : World) : Key → Int
  | .inl k => hashInt k
  | .inr x => hashStr w x
theorem keyIs_shape : ∀ {k : Key} {v : Value}, keyIs k v = true → (∃ i t, k = Sum.inl i ∧ v = Value.int i t) ∨ (∃ x t, k = Sum.inr x ∧ v = Value.str x t)
  | .inl i, v, h => by
    obtain ⟨t, e⟩ := Value.isInt_shape (k := i) (v := v) h
    exact .inl ⟨i, t, rfl, e⟩
  | .inr x, v, h => by
    obtain ⟨t, e⟩ := Value.isStrOf_shape (x := x) (v := v) h
    exact .inr ⟨x, t, rfl, e⟩
theorem keyIs_int (i : Int) (t : Tok) : keyIs (.inl i) (.int i t) = true := by simp [keyIs, Value.isInt]
theorem keyIs_str (x : Str) (t : Tok) : keyIs (.inr x) (.str x t) = true := by simp [keyIs, Value.isStrOf]
theorem key_ll (a b : Int) : decide ((Sum.inl a : Key) = Sum.inl b) = (a == b) := by
  by_cases e : a = b
  · subst e; simp
  · have h : ¬ (Sum.inl a : Key) = Sum.inl b := fun q => e (Sum.inl.inj q)
    rw [decide_eq_false h]
    exact (beq_eq_false_iff_ne.mpr e).symm
theorem key_rr (a b : Str) : decide ((Sum.inr a : Key) = Sum.inr b) = decide (a = b) := by
  by_cases e : a = b
  · subst e; simp
  · have h : ¬ (Sum.inr a : Key) = Sum.inr b := fun q => e (Sum.inr.inj q)
    rw [decide_eq_false h, decide_eq_false e]
theorem key_lr (a : Int) (b : Str) : decide ((Sum.inl a : Key) = Sum.inr b) = false := decide_eq_false (fun q => nomatch q)
theorem key_rl (a : Str) (b : Int) : decide ((Sum.inr a : Key) = Sum.inl b) = false := decide_eq_false (fun q => nomatch q)

def mixKind (prog : Program) (w : World) : PySem.KeyKind prog w Key where
  is := keyIs
  hash := keyH w
  inj := fun v a b ha hb => by
    rcases keyIs_shape ha with ⟨i, t, rfl, rfl⟩ | ⟨x, t, rfl, rfl⟩
    · rcases keyIs_shape hb with ⟨j, u, rfl, e⟩ | ⟨y, u, rfl, e⟩
      · injection e with e1 _; rw [e1]
      · exact nomatch e
    · rcases keyIs_shape hb with ⟨j, u, rfl, e⟩ | ⟨y, u, rfl, e⟩
      · exact nomatch e
      · injection e with e1 _; rw [e1]
  byValue := fun k v h => by
    rcases keyIs_shape h with ⟨i, t, rfl, rfl⟩ | ⟨x, t, rfl, rfl⟩ <;> rfl
  pyHash := fun hv h => by
    rcases keyIs_shape hv with ⟨i, t, rfl, rfl⟩ | ⟨x, t, rfl, rfl⟩
    · exact wpAny_pyHash_int h
    · exact wpAny_pyHash_str h
  eqBool := fun hu hv h => by
    rcases keyIs_shape hu with ⟨i, t, rfl, rfl⟩ | ⟨x, t, rfl, rfl⟩
    · rcases keyIs_shape hv with ⟨j, u, rfl, rfl⟩ | ⟨y, u, rfl, rfl⟩
      · rw [key_ll] at h; exact wpAny_eqBool_int h
      · rw [key_lr] at h; exact SeqAt.EqAt.int_str i t y u _ _ _ _ h
    · rcases keyIs_shape hv with ⟨j, u, rfl, rfl⟩ | ⟨y, u, rfl, rfl⟩
      · rw [key_rl] at h; exact SeqAt.EqAt.str_int x t j u _ _ _ _ h
      · rw [key_rr] at h; exact wpAny_eqBool_str h
  «strs» := fun k x t v h => by
    rcases keyIs_shape h with ⟨i, u, rfl, e⟩ | ⟨y, u, rfl, e⟩
    · exact nomatch e
    · injection e with e1 _
      subst e1
      cases v <;> rfl

theorem mixKind_is (prog : Program) (w : World) (k : Key) (v : Value) : (mixKind prog w).is k v = keyIs k v := rfl
theorem mixKind_int (prog : Program) (w : World) (i : Int) (t : Tok) : (mixKind prog w).is (.inl i) (.int i t) = true := keyIs_int i t
theorem mixKind_str (prog : Program) (w : World) (x : Str) (t : Tok) : (mixKind prog w).is (.inr x) (.str x t) = true := keyIs_str x t
end L2

namespace L2
open PySem PySem.Spec PyProof.Rows

/-- a value, without the heap -/
inductive V where
  | non | bl (b : Bool) | int (i : Int) | str (x : Str) | byt (b : Array UInt8) | flt (b : UInt64) | ref (a : Addr) | ty (n : String)
  deriving DecidableEq

def RelV : V → Value → Prop
  | .non, u => u = Value.none
  | .bl b, u => u = Value.bool b
  | .int i, u => ∃ t, u = Value.int i t
  | .str x, u => ∃ t, u = Value.str x t
  | .byt b, u => ∃ t, u = Value.bytes b t
  | .flt b, u => ∃ t, u = Value.float b t
  | .ref a, u => u = Value.ref a
  | .ty n, u => u = Value.type n

abbrev Vals : List V → List Value → Prop := Paired RelV
theorem Vals.length {xs : List V} {us : List Value} (r : Vals xs us) : xs.length = us.length := Paired.length r
theorem Vals.get : ∀ {xs : List V} {us : List Value} {i : Nat} {x : V}, Vals xs us → xs[i]? = some x → ∃ u, us[i]? = some u ∧ RelV x u
  | _, _, _, _, .nil, e => by simp at e
  | _, _, 0, _, .cons r _, e => by simp at e; subst e; exact ⟨_, rfl, r⟩
  | _, _, i + 1, x, .cons _ t, e => by
    obtain ⟨u, h1, h2⟩ := Vals.get (i := i) (x := x) t (by simpa using e)
    exact ⟨u, by simpa using h1, h2⟩
theorem Vals.set {x : V} {u : Value} (r : RelV x u) : ∀ {xs : List V} {us : List Value} (i : Nat), Vals xs us → Vals (xs.set i x) (us.set i u)
  | _, _, _, .nil => .nil
  | _, _, 0, .cons _ t => .cons r t
  | _, _, i + 1, .cons q t => .cons q (Vals.set r i t)
theorem Vals.append : ∀ {xs ys : List V} {us ws : List Value}, Vals xs us → Vals ys ws → Vals (xs ++ ys) (us ++ ws)
  | _, _, _, _, .nil, s => s
  | _, _, _, _, .cons r t, s => .cons r (Vals.append t s)
theorem Vals.take : ∀ {xs : List V} {us : List Value} (n : Nat), Vals xs us → Vals (xs.take n) (us.take n)
  | _, _, 0, _ => .nil
  | _, _, _ + 1, .nil => .nil
  | _, _, n + 1, .cons r t => .cons r (Vals.take n t)
theorem Vals.drop : ∀ {xs : List V} {us : List Value} (n : Nat), Vals xs us → Vals (xs.drop n) (us.drop n)
  | _, _, 0, r => r
  | _, _, _ + 1, .nil => .nil
  | _, _, n + 1, .cons _ t => Vals.drop n t
theorem Vals.none_of : ∀ {xs : List V} {us : List Value} {i : Nat}, Vals xs us → xs[i]? = none → us[i]? = none := fun {xs us i} r e => by
  have h1 := r.length
  have h2 : xs.length ≤ i := List.getElem?_eq_none_iff.mp e
  exact List.getElem?_eq_none_iff.mpr (by omega)

def RelO : Option V → Option Value → Prop
  | some v, some u => RelV v u
  | none, none => True
  | _, _ => False
def KV {κ : Type} : List (κ × V) → List (κ × Value) → Prop := Paired fun (p : κ × V) (q : κ × Value) => p.1 = q.1 ∧ RelV p.2 q.2

/-- a key of a dict (00_mix): an int or a text -/
def kV : Key → V
  | .inl i => .int i
  | .inr x => .str x

/-- what stands at a tracked address -/
inductive HO where
  /-- a list -/
  | lst (xs : List V)
  /-- a tuple (never changes) -/
  | tup (xs : List V)
  /-- a dict whose keys are ints and texts; one whose keys are tuples of ints and texts (the empty one is both) -/
  | dK (kvs : List (Key × V)) | dT (kvs : List (List Key × V))
  /-- a set of ints: its members, its size -/
  | set (S : Int → Bool) (n : Nat)
  /-- an instance of the class at C, its dict at dx, its attributes -/
  | ins (C dx : Addr) (fs : List (Str × V))
  /-- the dict of the instance at x -/
  | own (x : Addr)
  /-- the dict of an exception -/
  | xd (fs : List (Str × V))
  /-- a bound method, f of x -/
  | met (f x : Addr)
  /-- a range object lo, lo + 1, .. below hi -/
  | rng (lo hi : Int)
  /-- a thing that is known to the object (the script; a dict while a loop walks it): read, never written while it is so -/
  | frz (o : Obj) (u : HO)
  /-- a code object's table -/
  | tbl (ps : Array Value)
  /-- any other thing, by what is true of its one object (a def of one's own: SetO a S n := HO.ext fun h => ..) -/
  | ext (φ : Heap → Prop)

abbrev Hp := Addr → Option HO
def upd (H : Hp) (a : Addr) (o : HO) : Hp := fun b => if b = a then some o else H b
theorem upd_same {H : Hp} {a : Addr} {o : HO} : upd H a o a = some o := by unfold upd; rw [if_pos rfl]
theorem upd_ne {H : Hp} {a b : Addr} {o : HO} (h : b ≠ a) : upd H a o b = H b := by unfold upd; rw [if_neg h]
theorem upd_upd {H : Hp} {a : Addr} {o u : HO} : upd (upd H a o) a u = upd H a u := by
  funext b; unfold upd; split <;> rfl
/-- two objects of different content stand apart -/
theorem ne_of {H : Hp} {a b : Addr} {o u : HO} (h : H a = some o) (h' : H b = some u) (d : o ≠ u) : a ≠ b := by
  intro e; subst e; rw [h] at h'; exact d (Option.some.inj h')
theorem ne_of_none {H : Hp} {a b : Addr} {o : HO} (h : H a = some o) (h' : H b = none) : a ≠ b := by
  intro e; subst e; rw [h] at h'; cases h'

section
variable (P : Program) (w : World)
def ObjOk (H : Hp) (h : Heap) (a : Addr) : HO → Prop
  | .lst xs => xs.length ≤ sizeLine ∧ ∃ (its : List Value) (n : Nat), Vals xs its ∧ h.get? a = some { cls := .type "list", data := .seq its.toArray n }
  | .tup xs => xs.length ≤ sizeLine ∧ ∃ its : List Value, Vals xs its ∧ IsTup h a its.toArray
  | .dK kvs => kvs.length ≤ sizeLine ∧ (a == sysModules) = false ∧ ∃ vs, KV kvs vs ∧ h.DictOf (mixKind P w) a vs
  | .dT kvs => kvs.length ≤ sizeLine ∧ (a == sysModules) = false ∧ ∃ xs : List (List Key × Addr × Value),
      Paired (fun (p : List Key × V) (q : List Key × Addr × Value) => p.1 = q.1 ∧ H q.2.1 = some (.tup (p.1.map kV)) ∧ RelV p.2 q.2.2) kvs xs ∧
      ∃ o es ep, h.get? a = some o ∧ o.ExactDict ∧ o.data = .dict es ep ∧ es.toList = xs.map (entryOfKey (tupleKind (mixKind P w))) ∧ (xs.map (·.1)).Nodup
  | .set S n => h.SetOf (intKind P w) a S n
  | .ins C dx fs => H dx = some (.own a) ∧ fs.length ≤ 1000 ∧ dx ≠ a ∧ h.get? a = some (PySem.W.instObj C dx) ∧
      ∃ mA, h.Ns1 dx mA ∧ (∀ f, RelO (fs.lookup f) (mA f)) ∧ PySem.Within mA (fs.map (·.1))
  | .own _ => ∃ o, h.get? a = some o
  | .xd fs => ∃ mA, h.Ns1 a mA ∧ ∀ f, RelO (fs.lookup f) (mA f)
  | .rng lo hi => ∃ t u v, h.get? a = some { cls := .type "range", data := .fields #[.int lo t, .int hi u, .int 1 v] }
  | .frz o u => h.get? a = some o ∧ ObjOk H h a u
  | .tbl ps => h.get? a = some { cls := .none, data := .fields ps }
  | .met f x => h.get? a = some (PySem.W.methodObj (.ref f) (.ref x))
  | .ext φ => φ h ∧ (∃ o, h.get? a = some o) ∧ ∀ h1 h2 : Heap, φ h1 → (∀ o, h1.get? a = some o → h2.get? a = some o) → φ h2
/-- the abstract heap is held -/
def HOk (H : Hp) (h : Heap) : Prop := ∀ a o, H a = some o → ObjOk P w H h a o
end

section
variable {P : Program} {w : World} {H H' : Hp} {h h' : Heap} {a : Addr} {o : HO}
theorem ObjOk.lt (x : ObjOk P w H h a o) : a < h.objs.size := by
  cases o with
  | lst xs => obtain ⟨_, _, _, _, e⟩ := x; exact Heap.lt_size e
  | tup xs => obtain ⟨_, _, _, p⟩ := x; exact p.lt
  | dK kvs => obtain ⟨_, _, _, _, o, _, _, e, _⟩ := x; exact Heap.lt_size e
  | dT kvs => obtain ⟨_, _, _, _, o, _, _, e, _⟩ := x; exact Heap.lt_size e
  | set S n => obtain ⟨o, _, _, _, e, _⟩ := x; exact Heap.lt_size e
  | ins C dx fs => obtain ⟨_, _, _, e, _⟩ := x; exact Heap.lt_size e
  | own y => obtain ⟨_, e⟩ := x; exact Heap.lt_size e
  | xd fs => obtain ⟨_, ⟨_, _, _, e, _⟩, _⟩ := x; exact Heap.lt_size e
  | rng lo hi => obtain ⟨_, _, _, e⟩ := x; exact Heap.lt_size e
  | frz ob u => obtain ⟨e, _⟩ := x; exact Heap.lt_size e
  | tbl ps => exact Heap.lt_size (show h.get? a = some _ from x)
  | met f y => exact Heap.lt_size (show h.get? a = some _ from x)
  | ext φ => obtain ⟨_, ⟨_, e⟩, _⟩ := x; exact Heap.lt_size e
theorem Paired.mapP {α β : Type} {F G : α → β → Prop} : ∀ {l₁ : List α} {l₂ : List β}, Paired F l₁ l₂ → (∀ a b, F a b → G a b) → Paired G l₁ l₂
  | _, _, .nil, _ => .nil
  | _, _, .cons r t, f => .cons (f _ _ r) (Paired.mapP t f)
theorem Paired.imp' {α β : Type} {F G : α → β → Prop} (f : ∀ a b, F a b → G a b) {l₁ : List α} {l₂ : List β} (r : Paired F l₁ l₂) : Paired G l₁ l₂ := Paired.mapP r f
/-- what an object's description leans on: its own object, its own dict, the tuples -/
theorem ObjOk.stay (x : ObjOk P w H h a o) (k : ∀ b u, (b = a ∨ H b = some (.own a)) → h.get? b = some u → h'.get? b = some u)
    (ho : ∀ b, H b = some (.own a) → H' b = some (.own a)) (ht : ∀ b xs, H b = some (.tup xs) → H' b = some (.tup xs)) : ObjOk P w H' h' a o := by
  induction o with
  | lst xs => obtain ⟨z, its, n, r, e⟩ := x; exact ⟨z, its, n, r, k _ _ (.inl rfl) e⟩
  | tup xs => obtain ⟨z, its, r, ob, e, c⟩ := x; exact ⟨z, its, r, ob, k _ _ (.inl rfl) e, c⟩
  | dK kvs => obtain ⟨z, y, vs, r, ob, es, ep, e, c⟩ := x; exact ⟨z, y, vs, r, ob, es, ep, k _ _ (.inl rfl) e, c⟩
  | dT kvs =>
    obtain ⟨z, y, xs, r, ob, es, ep, e, c⟩ := x
    exact ⟨z, y, xs, Paired.mapP r fun p q z => ⟨z.1, ht _ _ z.2.1, z.2.2⟩, ob, es, ep, k _ _ (.inl rfl) e, c⟩
  | set S n => obtain ⟨ob, es, ep, t, e, c⟩ := x; exact ⟨ob, es, ep, t, k _ _ (.inl rfl) e, c⟩
  | ins C dx fs =>
    obtain ⟨d, z, ne, e, mA, ⟨od, es, ep, e2, c⟩, r⟩ := x
    exact ⟨ho _ d, z, ne, k _ _ (.inl rfl) e, mA, ⟨od, es, ep, k _ _ (.inr d) e2, c⟩, r⟩
  | own y => obtain ⟨ob, e⟩ := x; exact ⟨ob, k _ _ (.inl rfl) e⟩
  | xd fs => obtain ⟨mA, ⟨od, es, ep, e, c⟩, r⟩ := x; exact ⟨mA, ⟨od, es, ep, k _ _ (.inl rfl) e, c⟩, r⟩
  | rng lo hi => obtain ⟨t, u, v, e⟩ := x; exact ⟨t, u, v, k _ _ (.inl rfl) e⟩
  | frz ob u ih => obtain ⟨e, q⟩ := x; exact ⟨k _ _ (.inl rfl) e, ih q⟩
  | tbl ps =>
    have e : h.get? a = some { cls := .none, data := .fields ps } := x
    show h'.get? a = some { cls := .none, data := .fields ps }
    exact k a _ (.inl rfl) e
  | met f y =>
    have e : h.get? a = some (PySem.W.methodObj (.ref f) (.ref y)) := x
    show h'.get? a = some (PySem.W.methodObj (.ref f) (.ref y))
    exact k a _ (.inl rfl) e
  | ext φ => obtain ⟨p, ⟨o, e⟩, st⟩ := x; exact ⟨st _ _ p fun o q => k _ _ (.inl rfl) q, ⟨o, k _ _ (.inl rfl) e⟩, st⟩
theorem HOk.lt (x : HOk P w H h) (e : H a = some o) : a < h.objs.size := (x a o e).lt
theorem HOk.fresh (x : HOk P w H h) (e : h.objs.size ≤ a) : H a = none := by
  cases q : H a with
  | none => rfl
  | some u => exact absurd (Nat.lt_of_lt_of_le (x.lt q) e) (Nat.lt_irrefl _)
/-- every object of the heap is kept -/
theorem HOk.kept (x : HOk P w H h) (k : ∀ b u, h.get? b = some u → h'.get? b = some u) : HOk P w H h' := fun a o e =>
  (x a o e).stay (fun b u _ q => k b u q) (fun _ q => q) fun _ _ q => q
/-- a new object is laid and tracked -/
theorem HOk.laid (x : HOk P w H h) (k : ∀ b u, h.get? b = some u → h'.get? b = some u) (hp : h.objs.size ≤ a) (new : ObjOk P w (upd H a o) h' a o) : HOk P w (upd H a o) h' := fun b u e => by
  have hn := x.fresh hp
  by_cases hb : b = a
  · subst hb; rw [upd_same] at e; cases e; exact new
  · rw [upd_ne hb] at e
    exact (x b u e).stay (fun c v _ q => k c v q) (fun c q => by rw [upd_ne (ne_of_none q hn)]; exact q) fun c xs q => by rw [upd_ne (ne_of_none q hn)]; exact q
end

/-- what may be read as u: it is u, or a known u -/
def Rd (H : Hp) (a : Addr) (u : HO) : Prop := H a = some u ∨ ∃ o, H a = some (.frz o u)
theorem Rd.of {H : Hp} {a : Addr} {u : HO} (h : H a = some u) : Rd H a u := .inl h
theorem Rd.ok {P : Program} {w : World} {H : Hp} {h : Heap} {a : Addr} {u : HO} (r : Rd H a u) (x : HOk P w H h) : ObjOk P w H h a u := by
  rcases r with r | ⟨o, r⟩
  · exact x a u r
  · obtain ⟨_, q⟩ := x a _ r
    exact q
/-- what may be written -/
def Mut : Option HO → Prop
  | some (.lst _) => True
  | some (.dK _) => True
  | some (.dT _) => True
  | some (.set _ _) => True
  | some (.ins _ _ _) => True
  | some (.ext _) => True
  | _ => False
section
variable {P : Program} {w : World} {H : Hp} {h h' : Heap} {x e : Addr} {o' : HO}
/-- the object at e is changed: x itself, or the dict of the instance x -/
theorem HOk.write (ok : HOk P w H h) (mu : Mut (H x)) (he : e = x ∨ H e = some (.own x)) (k : ∀ b u, b ≠ e → h.get? b = some u → h'.get? b = some u) (heo : ∃ u, h'.get? e = some u)
    (new : ObjOk P w (upd H x o') h' x o') : HOk P w (upd H x o') h' := fun b u q => by
  have nown : ∀ c y, H c = some (.own y) → c ≠ x := fun c y r z => by subst z; rw [r] at mu; exact mu
  have ntup : ∀ c xs, H c = some (.tup xs) → c ≠ x := fun c xs r z => by subst z; rw [r] at mu; exact mu
  by_cases hb : b = x
  · subst hb; rw [upd_same] at q; cases q; exact new
  · rw [upd_ne hb] at q
    by_cases hbe : b = e
    · have q' : H b = some (.own x) := by
        rcases he with z | z
        · exact absurd (hbe.trans z) hb
        · rw [hbe]; exact z
      rw [q] at q'; cases q'
      obtain ⟨v, hv⟩ := heo
      exact ⟨v, by rw [hbe]; exact hv⟩
    · refine (ok b u q).stay (fun c v hc r => k c v ?_ r) (fun c r => by rw [upd_ne (nown c b r)]; exact r) fun c xs r => by rw [upd_ne (ntup c xs r)]; exact r
      rcases hc with rfl | hc
      · exact hbe
      · rintro rfl
        rcases he with z | z
        · exact nown c b hc z
        · rw [hc] at z; cases z; exact hb rfl
end

/-! ### kept unless tracked; of the frames at fs (the callers') the slots may change (an exception that passes writes there); of the records at ex (iterators) nothing is said -/
structure Un (fs ex : List Addr) (H H' : Hp) (h h' : Heap) : Prop where
  keep : ∀ b o, h.get? b = some o → H b = none → b ∉ fs → b ∉ ex → h'.get? b = some o
  slot : ∀ b o, h.get? b = some o → H b = none → b ∈ fs → b ∉ ex → ∃ sl, h'.get? b = some { o with slots := sl }
  free : ∀ b o, h.get? b = some o → H b = none → b ∉ ex → H' b = none
  there : ∀ b o, h.get? b = some o → b ∉ ex → ∃ o', h'.get? b = some o'
  tups : ∀ b xs, H b = some (.tup xs) → H' b = some (.tup xs)
  frzs : ∀ b o u, H b = some (.frz o u) → H' b = some (.frz o u)
  tbls : ∀ b ps, H b = some (.tbl ps) → ∃ more, H' b = some (.tbl (ps ++ more))
section
variable {fs fs' ex ex' : List Addr} {H H1 H2 : Hp} {h h1 h2 h' : Heap} {a x e : Addr} {o : HO}
theorem Un.any (u : Un fs ex H H1 h h1) {b : Addr} {ob : Obj} (q : h.get? b = some ob) (n : H b = none) (hx : b ∉ ex) : ∃ sl, h1.get? b = some { ob with slots := sl } := by
  by_cases hb : b ∈ fs
  · exact u.slot b ob q n hb hx
  · exact ⟨ob.slots, u.keep b ob q n hb hx⟩
theorem Un.trans (a : Un fs ex H H1 h h1) (b : Un fs ex H1 H2 h1 h2) : Un fs ex H H2 h h2 where
  keep := fun c ob q n hc hx => b.keep c ob (a.keep c ob q n hc hx) (a.free c ob q n hx) hc hx
  slot := fun c ob q n hc hx => by
    obtain ⟨sl, e1⟩ := a.slot c ob q n hc hx
    obtain ⟨sl', e2⟩ := b.slot c _ e1 (a.free c ob q n hx) hc hx
    exact ⟨sl', e2⟩
  free := fun c ob q n hx => by
    obtain ⟨o', e1⟩ := a.there c ob q hx
    exact b.free c o' e1 (a.free c ob q n hx) hx
  there := fun c ob q hx => by
    obtain ⟨o', e1⟩ := a.there c ob q hx
    exact b.there c o' e1 hx
  tups := fun c xs q => b.tups c xs (a.tups c xs q)
  frzs := fun c ob xs q => b.frzs c ob xs (a.frzs c ob xs q)
  tbls := fun c ps q => by
    obtain ⟨m1, e1⟩ := a.tbls c ps q
    obtain ⟨m2, e2⟩ := b.tbls c _ e1
    exact ⟨m1 ++ m2, by rw [e2, Array.append_assoc]⟩
theorem Un.kept (k : ∀ b u, h.get? b = some u → h'.get? b = some u) : Un fs ex H H h h' :=
  ⟨fun b ob q _ _ _ => k b ob q, fun b ob q _ _ _ => ⟨ob.slots, k b ob q⟩, fun _ _ _ n _ => n, fun b ob q _ => ⟨ob, k b ob q⟩, fun _ _ q => q, fun _ _ _ q => q, fun _ ps q => ⟨#[], by rw [q]; simp⟩⟩
theorem Un.refl : Un fs ex H H h h := Un.kept fun _ _ q => q
theorem Un.laid (k : ∀ b u, h.get? b = some u → h'.get? b = some u) (hp : h.objs.size ≤ a) (hn : H a = none) : Un fs ex H (upd H a o) h h' where
  keep := fun b u q _ _ _ => k b u q
  slot := fun b u q _ _ _ => ⟨u.slots, k b u q⟩
  free := fun b u q n _ => by rw [upd_ne (Nat.ne_of_lt (Nat.lt_of_lt_of_le (Heap.lt_size q) hp))]; exact n
  there := fun b u q _ => ⟨u, k b u q⟩
  tups := fun b xs q => by rw [upd_ne (ne_of_none q hn)]; exact q
  frzs := fun b u xs q => by rw [upd_ne (ne_of_none q hn)]; exact q
  tbls := fun b ps q => ⟨#[], by rw [upd_ne (ne_of_none q hn), q]; simp⟩
theorem Un.write (mu : Mut (H x)) (he : e = x ∨ H e = some (.own x)) (k : ∀ b u, b ≠ e → h.get? b = some u → h'.get? b = some u) (heo : ∃ u, h'.get? e = some u) : Un fs ex H (upd H x o) h h' := by
  have hx : ∀ b, H b = none → b ≠ x := fun b n z => by subst z; rw [n] at mu; exact mu
  have hb : ∀ b, H b = none → b ≠ e := fun b n z => by
    subst z
    rcases he with r | r
    · exact hx b n r
    · rw [n] at r; cases r
  have hm : ∀ b u, H b = some u → ¬ Mut (some u) → b ≠ x := fun b u q nm z => by subst z; rw [q] at mu; exact nm mu
  refine ⟨fun b u q n _ _ => k b u (hb b n) q, fun b u q n _ _ => ⟨u.slots, k b u (hb b n) q⟩, fun b u q n _ => by rw [upd_ne (hx b n)]; exact n, fun b u q _ => ?_,
    fun b xs q => by rw [upd_ne (hm b _ q fun z => z)]; exact q, fun b u xs q => by rw [upd_ne (hm b _ q fun z => z)]; exact q, fun b ps q => ⟨#[], by rw [upd_ne (hm b _ q fun z => z), q]; simp⟩⟩
  by_cases hbe : b = e
  · subst hbe; exact heo
  · exact ⟨u, k b u hbe q⟩
theorem Un.mono (u : Un fs ex H H1 h h1) (hs : ∀ b ∈ fs, b ∈ fs') (hx : ∀ b ∈ ex, b ∈ ex') : Un fs' ex' H H1 h h1 :=
  ⟨fun b ob q n hb he => u.keep b ob q n (fun z => hb (hs b z)) fun z => he (hx b z), fun _ _ q n _ he => u.any q n fun z => he (hx _ z), fun b ob q n he => u.free b ob q n fun z => he (hx b z), fun b ob q he => u.there b ob q fun z => he (hx b z), u.tups, u.frzs, u.tbls⟩
end

/-! ### the heap without what is tracked -/
def trk (h : Heap) (H : Hp) : List Addr := (List.range h.objs.size).filter fun a => (H a).isSome
def hidT (h : Heap) (H : Hp) : Heap := PySem.W.hideAll h (trk h H)
theorem hidT_size (h : Heap) (H : Hp) : (hidT h H).objs.size = h.objs.size := PySem.W.hideAll_size _ _
theorem hidT_get {h : Heap} {H : Hp} {b : Addr} {o : Obj} (e : h.get? b = some o) (n : H b = none) : (hidT h H).get? b = some o :=
  PySem.W.hideAll_get _ e fun hm => by
    have q : (H b).isSome = true := (List.mem_filter.mp hm).2
    rw [n] at q; simp at q
theorem of_hidT {h : Heap} {H : Hp} {b : Addr} {o : Obj} (e : (hidT h H).get? b = some o) : h.get? b = some o ∧ H b = none := by
  have e' : h.get? b = some o := PySem.W.of_hideAll (trk h H) e
  refine ⟨e', ?_⟩
  cases q : H b with
  | none => rfl
  | some x =>
    have hm : b ∈ trk h H := List.mem_filter.mpr ⟨List.mem_range.mpr (Heap.lt_size e'), by simp [q]⟩
    have z : (hidT h H).get? b = none := PySem.W.hideAll_none (trk h H) hm
    rw [z] at e; cases e

/-! ### OpenK's ledger, filled with every new object but one -/
def allNews (g h : Heap) (L : Addr) : List (Addr × Obj) := (List.range h.objs.size).filterMap fun a => if a = L ∨ (g.get? a).isSome = true then none else (h.get? a).map fun o => (a, o)
theorem mem_allNews {g h : Heap} {L a : Addr} {o : Obj} (h1 : a ≠ L) (h2 : g.get? a = none) (h3 : h.get? a = some o) : (a, o) ∈ allNews g h L :=
  List.mem_filterMap.mpr ⟨a, List.mem_range.mpr (Heap.lt_size h3), by simp [h1, h2, h3]⟩
theorem of_mem_allNews {g h : Heap} {L : Addr} {p : Addr × Obj} (hp : p ∈ allNews g h L) : p.1 ≠ L ∧ g.get? p.1 = none ∧ h.get? p.1 = some p.2 := by
  obtain ⟨b, _, e⟩ := List.mem_filterMap.mp hp
  split at e
  · cases e
  · rename_i hn
    cases q : h.get? b with
    | none => rw [q] at e; simp at e
    | some u =>
      rw [q] at e
      simp only [Option.map_some, Option.some.injEq] at e
      subst e
      refine ⟨fun z => hn (.inl z), ?_, q⟩
      show g.get? b = none
      cases r : g.get? b with
      | none => rfl
      | some v => exact (hn (.inr (by simp [r]))).elim
def rest (g h : Heap) (L d : Addr) : List (Addr × Obj) := (allNews g h L).filter fun p => decide (p.1 ≠ d)
theorem rest_ne {g h : Heap} {L d : Addr} : ∀ p ∈ rest g h L d, p.1 ≠ d := fun p hp => of_decide_eq_true (List.mem_filter.mp hp).2
theorem mem_rest {g h : Heap} {L d a : Addr} {o : Obj} (h1 : a ≠ L) (h2 : g.get? a = none) (h3 : h.get? a = some o) (h4 : a ≠ d) : (a, o) ∈ rest g h L d :=
  List.mem_filter.mpr ⟨mem_allNews h1 h2 h3, decide_eq_true h4⟩
theorem news_all {g h : Heap} {L : Addr} : News g L h (allNews g h L) := fun p hp => let ⟨a, b, c⟩ := of_mem_allNews hp; ⟨c, a, b⟩
theorem news_at {g h : Heap} {L d : Addr} {o : Obj} (h1 : d ≠ L) (h2 : g.get? d = none) (h3 : h.get? d = some o) : News g L h ((d, o) :: rest g h L d) := fun p hp => by
  rcases List.mem_cons.mp hp with rfl | hp
  · exact ⟨h3, h1, h2⟩
  · exact news_all p (List.mem_filter.mp hp).1
/-- behind a rule that changed d alone: all else but the frame is kept -/
theorem kept_of_news {g h h' : Heap} {L d : Addr} {m : Str → Option Value} (k : ∀ b o, g.get? b = some o → h.get? b = some o) (F : Fr g L h' m) (N : News g L h' (rest g h L d)) :
    ∀ b o, b ≠ L → b ≠ d → h.get? b = some o → h'.get? b = some o := fun b o h1 h2 e => by
  cases q : g.get? b with
  | some u =>
    have := k b u q
    rw [e] at this; cases this
    exact F.keep b _ q
  | none => exact (N (b, o) (mem_rest h1 q e h2)).1
end L2

namespace L2
open PySem PySem.Spec PyProof.Rows

/-- the module's facts, over the base: the heap at the law's entry without what is tracked there -/
structure Mod (K : PySem.W.Frag) (mg : Str → Option Value) (base : Heap) : Prop where
  kin : K.In base
  glob : base.Ns mainGlobals mg
  blt : ∃ mb, base.Ns builtinsNs mb ∧ ∀ x : Str, x ≠ "__name__" → mb x = bootBuiltins x
  nolimit : base.NoLimit

/-- the context: a def's body (or a comprehension's block) running. base: fixed through the whole law; s₀, H₀: the entry; outer: the frames whose slots others may change (a def's callers); stack: all frames that run;
   ex: iterators that were made ahead of the entry and are walked here (a comprehension's); fn: the names whose cells were made at the entry (a def: all; a comprehension's block: its own); calm: not within an except suite; pn: pins that every state bears; xe: what is wanted of an exception that leaves the code -/
structure Cx where
  prog : Program
  w : World
  K : PySem.W.Frag
  mg : Str → Option Value
  base : Heap
  A : Around
  N : List Str
  s₀ : Shared
  H₀ : Hp
  env : Env
  outer : List Env
  stack : List Env
  ex : List Addr
  fn : Str → Bool
  calm : Bool
  pn : List (Addr × Obj)
  xe : Value → Shared → Prop
/-- the callers' frames -/
def frs (l : List Env) : List Addr := l.filterMap (·.frame)
abbrev Cx.fs (X : Cx) : List Addr := frs X.outer

def Vis (sc : Scope) (x : Str) : Prop := sc.names.lookup x = some .local ∨ sc.names.lookup x = some .cell ∨ sc.names.lookup x = some .free
def Loc (sc : Scope) (x : Str) : Prop := sc.names.lookup x = some .local ∨ sc.names.lookup x = some .cell
def Look (env : Env) (h : Heap) (m : Str → Option Value) (x : Str) (u : Value) : Prop :=
  (env.kindOf x = some .local ∧ m x = some u) ∨ ((env.kindOf x = some .cell ∨ env.kindOf x = some .free) ∧ ∃ c, env.cells.lookup x = some c ∧ h.IsCell c (some u))

structure Cx.Ok (X : Cx) : Prop where
  mod : Mod X.K X.mg X.base
  kind : X.env.scope.kind = .function
  glob : X.env.globals = mainGlobals
  blt : X.env.builtins = builtinsNs
  above : X.s₀.heap.objs.size ≤ X.env.locals
  inj : ∀ x y c, X.env.cells.lookup x = some c → X.env.cells.lookup y = some c → x = y
  has : ∀ x, (X.env.kindOf x = some .cell ∨ X.env.kindOf x = some .free) → ∃ c, X.env.cells.lookup x = some c
  cab : ∀ x c, X.fn x = true → X.env.cells.lookup x = some c → X.s₀.heap.objs.size ≤ c
  hd : X.calm = true → X.A.handled = none
  frames : X.A.frames = some X.stack
  stk : X.stack = X.outer ∨ (X.stack = X.env :: X.outer ∧ X.env.frame = some X.env.locals)
  exf : ∀ b ∈ X.ex, b ≠ X.env.locals ∧ ∀ x c, X.env.cells.lookup x = some c → c ≠ b
  bs : ∀ b o, X.base.get? b = some o → X.s₀.heap.get? b = some o ∧ X.H₀ b = none
  bsz : X.base.objs.size ≤ X.s₀.heap.objs.size
  noex : ∀ b o, X.base.get? b = some o → b ∉ X.ex
  exfs : ∀ b ∈ X.ex, b ∉ X.fs
  funs : X.s₀.heap.FunFrames X.base X.outer
  frf : ∀ b ∈ X.fs, X.H₀ b = none

structure Inv (X : Cx) (pins : List (Addr × Obj)) (σ : List (Option V)) (H : Hp) (s : Shared) : Prop where
  ok : X.Ok
  os : s.os = X.s₀.os
  bare : AllBare s.gens
  base : Un X.fs X.ex X.H₀ H X.s₀.heap s.heap
  loc : ∃ m, s.heap.Ns X.env.locals m ∧ ∀ (i : Nat) (x : Str) (v : V), X.N[i]? = some x → σ[i]? = some (some v) → Vis X.env.scope x → ∃ u, RelV v u ∧ Look X.env s.heap m x u
  cell : ∀ x c, X.env.cells.lookup x = some c → ∃ v, s.heap.IsCell c v
  free : H X.env.locals = none
  freeC : ∀ x c, X.env.cells.lookup x = some c → H c = none
  pin : ∀ p ∈ X.pn ++ pins, s.heap.get? p.1 = some p.2 ∧ H p.1 = none ∧ p.1 ≠ X.env.locals ∧ p.1 ∉ X.fs ∧ ∀ v, p.2.data ≠ .cell v
  hok : HOk X.prog X.w H s.heap
  len : σ.length = X.N.length

section
variable {X : Cx} {pins : List (Addr × Obj)} {σ : List (Option V)} {H H' : Hp} {s : Shared} {h' : Heap}

theorem Cx.Ok.nofr (ok : X.Ok) {b : Addr} {o : Obj} (e : X.base.get? b = some o) : b ∉ X.fs := fun hb => by
  have := (ok.funs.mem hb).1
  rw [e] at this; cases this
theorem Inv.bs (I : Inv X pins σ H s) : ∀ b o, X.base.get? b = some o → s.heap.get? b = some o ∧ H b = none := fun b o e =>
  ⟨I.base.keep b o (I.ok.bs b o e).1 (I.ok.bs b o e).2 (I.ok.nofr e) (I.ok.noex b o e), I.base.free b o (I.ok.bs b o e).1 (I.ok.bs b o e).2 (I.ok.noex b o e)⟩
theorem Inv.bk (I : Inv X pins σ H s) : ∀ b o, X.base.get? b = some o → s.heap.get? b = some o := fun b o e => (I.bs b o e).1
theorem Inv.mod (I : Inv X pins σ H s) : Mod X.K X.mg X.base := I.ok.mod
theorem Inv.kIn (I : Inv X pins σ H s) : X.K.In s.heap := I.ok.mod.kin.keeps I.bk
theorem Inv.nolimit (I : Inv X pins σ H s) : s.heap.NoLimit := I.ok.mod.nolimit.keeps I.bk
/-- the frame over the base: for OpenK's rules (K.In X.base is I.mod.kin) -/
theorem Inv.fr (I : Inv X pins σ H s) : ∃ m, Fr X.base X.env.locals s.heap m :=
  let ⟨m, hn, _⟩ := I.loc
  ⟨m, hn, I.bk, Nat.le_trans I.ok.bsz I.ok.above⟩
theorem Inv.lt (I : Inv X pins σ H s) : X.env.locals < s.heap.objs.size := let ⟨_, hn, _⟩ := I.loc; hn.lt
theorem Inv.sz (I : Inv X pins σ H s) : X.s₀.heap.objs.size ≤ s.heap.objs.size := Nat.le_trans I.ok.above (Nat.le_of_lt I.lt)
theorem Inv.nofs (I : Inv X pins σ H s) {a : Addr} (h : s.heap.objs.size ≤ a) : a ∉ X.fs := fun hb => by
  obtain ⟨_, o, ho, _⟩ := I.ok.funs.mem hb
  exact absurd (Nat.lt_of_lt_of_le (Heap.lt_size ho) (Nat.le_trans I.sz h)) (Nat.lt_irrefl _)
theorem Inv.cne (I : Inv X pins σ H s) : ∀ x c, X.env.cells.lookup x = some c → c ≠ X.env.locals := fun x c e z => by
  obtain ⟨v, o, ho, hd⟩ := I.cell x c e
  obtain ⟨m, ⟨o', es, ep, ho', hd', _⟩, _⟩ := I.loc
  rw [z, ho'] at ho; cases ho; rw [hd'] at hd; cases hd
theorem Inv.funs (I : Inv X pins σ H s) : s.heap.FunFrames X.base X.outer := by
  have all : ∀ (l : List Env), (∀ b ∈ frs l, b ∈ X.fs) → X.s₀.heap.FunFrames X.base l → s.heap.FunFrames X.base l := by
    intro l
    induction l with
    | nil => intro _ _; trivial
    | cons env r ih =>
      intro hs hl
      obtain ⟨hk, ⟨L, o, hf, hn, ho, hd⟩, hr⟩ := hl
      have hL : L ∈ X.fs := hs L (by unfold frs; rw [List.filterMap_cons, hf]; exact List.mem_cons_self)
      obtain ⟨sl, e⟩ := I.base.slot L o ho (I.ok.frf L hL) hL fun z => I.ok.exfs L z hL
      exact ⟨hk, ⟨L, _, hf, hn, e, hd⟩, ih (fun b hb => hs b (by unfold frs; rw [List.filterMap_cons, hf]; exact List.mem_cons_of_mem _ hb)) hr⟩
  exact all X.outer (fun _ hb => hb) I.ok.funs

/-- the frames that run, for a call -/
theorem Inv.stack (I : Inv X pins σ H s) : s.heap.FunFrames X.base X.stack := by
  rcases I.ok.stk with e | ⟨e, hf⟩
  · rw [e]; exact I.funs
  · rw [e]
    obtain ⟨m, hn, _⟩ := I.loc
    refine .cons (by rw [I.ok.kind]; decide) hf hn ?_ I.funs
    exact Heap.get?_none_of_le (Nat.le_trans I.ok.bsz I.ok.above)
theorem Inv.stkSub (I : Inv X pins σ H s) : ∀ b ∈ frs X.stack, b ∈ X.env.locals :: X.fs := fun b hb => by
  rcases I.ok.stk with e | ⟨e, hf⟩
  · rw [e] at hb; exact List.mem_cons_of_mem _ hb
  · rw [e] at hb
    unfold frs at hb
    rw [List.filterMap_cons, hf] at hb
    exact hb
theorem Inv.stkFree (I : Inv X pins σ H s) : ∀ b ∈ frs X.stack, H b = none := fun b hb => by
  rcases List.mem_cons.mp (I.stkSub b hb) with e | hb
  · rw [e]; exact I.free
  · obtain ⟨_, o, ho, _⟩ := I.ok.funs.mem hb
    exact I.base.free b o ho (I.ok.frf b hb) fun z => I.ok.exfs b z hb

/-- THE STEP: the untracked objects but the frame and the records at ch are kept (the callers' frames up to slots), the frame's map is kept, the new abstract heap is held -/
theorem Inv.step {g' : Array GenState} {t' : Nat} {d' : Drawn} {ch : List Addr} (I : Inv X pins σ H s)
    (hch : ∀ b ∈ ch, (b ∈ X.ex ∨ X.s₀.heap.objs.size ≤ b) ∧ b ≠ X.env.locals ∧ (∀ x c, X.env.cells.lookup x = some c → c ≠ b) ∧ ∀ p ∈ X.pn ++ pins, p.1 ≠ b)
    (keep : ∀ b o, b ≠ X.env.locals → b ∉ X.fs → b ∉ ch → s.heap.get? b = some o → H b = none → h'.get? b = some o)
    (slot : ∀ b o, b ≠ X.env.locals → b ∈ X.fs → b ∉ ch → s.heap.get? b = some o → H b = none → ∃ sl, h'.get? b = some { o with slots := sl }) (free : ∀ b o, b ∉ ch → s.heap.get? b = some o → H b = none → H' b = none)
    (there : ∀ b o, b ∉ ch → s.heap.get? b = some o → ∃ o', h'.get? b = some o')
    (tups : ∀ b xs, H b = some (.tup xs) → H' b = some (.tup xs)) (frzs : ∀ b o u, H b = some (.frz o u) → H' b = some (.frz o u)) (tbls : ∀ b ps, H b = some (.tbl ps) → ∃ more, H' b = some (.tbl (ps ++ more)))
    (ns : ∀ m, s.heap.Ns X.env.locals m → h'.Ns X.env.locals m) (hok : HOk X.prog X.w H' h') (hg : AllBare g') :
    Inv X pins σ H' { s with heap := h', gens := g', drawn := d', toks := t' } := by
  have neL : ∀ b o, X.s₀.heap.get? b = some o → b ≠ X.env.locals := fun b o e => Nat.ne_of_lt (Nat.lt_of_lt_of_le (Heap.lt_size e) I.ok.above)
  have neC : ∀ b o, X.s₀.heap.get? b = some o → b ∉ X.ex → b ∉ ch := fun b o e hx hb => by
    rcases (hch b hb).1 with z | z
    · exact hx z
    · exact absurd (Nat.lt_of_lt_of_le (Heap.lt_size e) z) (Nat.lt_irrefl _)
  have cellK : ∀ x c, X.env.cells.lookup x = some c → ∀ v, s.heap.IsCell c v → h'.IsCell c v := fun x c e v ⟨o, ho, hd⟩ => by
    have nch : c ∉ ch := fun z => (hch c z).2.2.1 x c e rfl
    by_cases hc : c ∈ X.fs
    · obtain ⟨sl, q⟩ := slot c o (I.cne x c e) hc nch ho (I.freeC x c e)
      exact ⟨_, q, hd⟩
    · exact ⟨o, keep c o (I.cne x c e) hc nch ho (I.freeC x c e), hd⟩
  refine ⟨I.ok, I.os, hg, ⟨fun b o e n hb hx => ?_, fun b o e n hb hx => ?_, fun b o e n hx => ?_, fun b o e hx => ?_, fun b xs e => tups b xs (I.base.tups b xs e), fun b o xs e => frzs b o xs (I.base.frzs b o xs e), fun b ps e => ?_⟩, ?_, fun x c e => ?_, ?_, fun x c e => ?_, fun p hp => ?_, hok, I.len⟩
  · exact keep b o (neL b o e) hb (neC b o e hx) (I.base.keep b o e n hb hx) (I.base.free b o e n hx)
  · obtain ⟨sl, e1⟩ := I.base.slot b o e n hb hx
    obtain ⟨sl', e2⟩ := slot b _ (neL b o e) hb (neC b o e hx) e1 (I.base.free b o e n hx)
    exact ⟨sl', e2⟩
  · obtain ⟨o', e1⟩ := I.base.there b o e hx
    exact free b o' (neC b o e hx) e1 (I.base.free b o e n hx)
  · obtain ⟨o', e1⟩ := I.base.there b o e hx
    exact there b o' (neC b o e hx) e1
  · obtain ⟨m1, e1⟩ := I.base.tbls b ps e
    obtain ⟨m2, e2⟩ := tbls b _ e1
    exact ⟨m1 ++ m2, by rw [e2, Array.append_assoc]⟩
  · obtain ⟨m, hn, hl⟩ := I.loc
    refine ⟨m, ns m hn, fun i x v e1 e2 e3 => ?_⟩
    obtain ⟨u, r, l⟩ := hl i x v e1 e2 e3
    refine ⟨u, r, ?_⟩
    rcases l with l | ⟨k, c, e, z⟩
    · exact .inl l
    · exact .inr ⟨k, c, e, cellK x c e _ z⟩
  · obtain ⟨v, z⟩ := I.cell x c e
    exact ⟨v, cellK x c e v z⟩
  · obtain ⟨m, ⟨o, _, _, ho, _⟩, _⟩ := I.loc
    exact free _ o (fun z => (hch _ z).2.1 rfl) ho I.free
  · obtain ⟨v, o, ho, hd⟩ := I.cell x c e
    exact free c o (fun z => (hch c z).2.2.1 x c e rfl) ho (I.freeC x c e)
  · obtain ⟨e, n, ne, nf, d⟩ := I.pin p hp
    have nch : p.1 ∉ ch := fun z => (hch p.1 z).2.2.2 p hp rfl
    exact ⟨keep p.1 p.2 ne nf nch e n, free p.1 p.2 nch e n, ne, nf, d⟩
/-- .. where the frame's own object is kept too -/
theorem Inv.un {t' : Nat} (I : Inv X pins σ H s) (u : Un X.fs [] H H' s.heap h') (hok : HOk X.prog X.w H' h') : Inv X pins σ H' { s with heap := h', toks := t' } := by
  obtain ⟨m, ⟨o, es, ep, ho, r⟩, _⟩ := id I.loc
  obtain ⟨sl, hL⟩ := u.any ho I.free (by simp)
  exact I.step (g' := s.gens) (d' := s.drawn) (ch := []) (fun _ z => nomatch z) (fun b o _ hb _ e n => u.keep b o e n hb (by simp)) (fun b o _ hb _ e n => u.slot b o e n hb (by simp)) (fun b o _ e n => u.free b o e n (by simp)) (fun b o _ e => u.there b o e (by simp)) u.tups u.frzs u.tbls (fun m' hm => by
    obtain ⟨o', es', ep', ho', r'⟩ := hm
    rw [ho] at ho'; cases ho'
    exact ⟨_, es', ep', hL, r'⟩) hok I.bare
/-- behind a call (or a comprehension's block): the slots of this frame may have changed too, the records at ch may have turned -/
theorem Inv.call {g' : Array GenState} {t' : Nat} {d' : Drawn} {ch : List Addr} (I : Inv X pins σ H s) (u : Un (frs X.stack) ch H H' s.heap h') (hok : HOk X.prog X.w H' h') (hg : AllBare g')
    (hch : ∀ b ∈ ch, (b ∈ X.ex ∨ X.s₀.heap.objs.size ≤ b) ∧ b ≠ X.env.locals ∧ (∀ x c, X.env.cells.lookup x = some c → c ≠ b) ∧ ∀ p ∈ X.pn ++ pins, p.1 ≠ b) :
    Inv X pins σ H' { s with heap := h', gens := g', drawn := d', toks := t' } := by
  obtain ⟨m, ⟨o, es, ep, ho, r⟩, _⟩ := id I.loc
  obtain ⟨sl, hL⟩ := u.any ho I.free fun z => (hch _ z).2.1 rfl
  exact I.step (ch := ch) hch (fun b o hL hb hc e n => u.keep b o e n (fun z => (List.mem_cons.mp (I.stkSub b z)).elim hL hb) hc) (fun b o _ _ hc e n => u.any e n hc) (fun b o hc e n => u.free b o e n hc) (fun b o hc e => u.there b o e hc) u.tups u.frzs u.tbls (fun m' hm => by
    obtain ⟨o', es', ep', ho', r'⟩ := hm
    rw [ho] at ho'; cases ho'
    exact ⟨_, es', ep', hL, r'⟩) hok hg
/-- an untracked record of ours (an iterator) has turned -/
theorem Inv.turned {t' : Nat} {it : Addr} (I : Inv X pins σ H s) (k : ∀ b o, b ≠ it → s.heap.get? b = some o → h'.get? b = some o) (hn : H it = none) (hL : it ≠ X.env.locals)
    (h1 : it ∈ X.ex ∨ X.s₀.heap.objs.size ≤ it) (h2 : ∀ x c, X.env.cells.lookup x = some c → c ≠ it) (h3 : ∀ p ∈ X.pn ++ pins, p.1 ≠ it) : Inv X pins σ H { s with heap := h', toks := t' } := by
  have nit : ∀ b u, H b = some u → b ≠ it := fun b u e z => by rw [z, hn] at e; cases e
  refine I.step (g' := s.gens) (d' := s.drawn) (ch := [it]) (fun b hb => ?_) (fun b o _ _ hc e _ => k b o (fun z => hc (by simp [z])) e) (fun b o _ _ hc e _ => ⟨o.slots, k b o (fun z => hc (by simp [z])) e⟩) (fun _ _ _ _ n => n)
    (fun b o hc e => ⟨o, k b o (fun z => hc (by simp [z])) e⟩) (fun _ _ e => e) (fun _ _ _ e => e) (fun b ps e => ⟨#[], by rw [e]; simp⟩) (fun m hm => ?_) (fun b u e => ?_) I.bare
  · have e : b = it := by simpa using hb
    subst e
    exact ⟨h1, hL, h2, h3⟩
  · obtain ⟨o, es, ep, ho, r⟩ := hm
    exact ⟨o, es, ep, k _ o (Ne.symm hL) ho, r⟩
  · refine (I.hok b u e).stay (fun c v hc q => k c v ?_ q) (fun _ q => q) fun _ _ q => q
    rcases hc with z | z
    · rw [z]; exact nit b u e
    · exact nit c _ z
theorem Inv.tok (I : Inv X pins σ H s) (t : Nat) : Inv X pins σ H { s with toks := t } := I.un (h' := s.heap) (t' := t) Un.refl I.hok
/-- all objects kept -/
theorem Inv.kept {t' : Nat} (I : Inv X pins σ H s) (k : ∀ b u, s.heap.get? b = some u → h'.get? b = some u) : Inv X pins σ H { s with heap := h', toks := t' } := I.un (Un.kept k) (I.hok.kept k)
/-- a new object laid and tracked -/
theorem Inv.laid {a : Addr} {o : HO} {t' : Nat} (I : Inv X pins σ H s) (k : ∀ b u, s.heap.get? b = some u → h'.get? b = some u) (hp : s.heap.objs.size ≤ a) (new : ObjOk X.prog X.w (upd H a o) h' a o) :
    Inv X pins σ (upd H a o) { s with heap := h', toks := t' } := I.un (Un.laid k hp (I.hok.fresh hp)) (I.hok.laid k hp new)
/-- an object written -/
theorem Inv.write {x e : Addr} {o : HO} {t' : Nat} (I : Inv X pins σ H s) (mu : Mut (H x)) (he : e = x ∨ H e = some (.own x)) (k : ∀ b u, b ≠ e → s.heap.get? b = some u → h'.get? b = some u) (heo : ∃ u, h'.get? e = some u)
    (new : ObjOk X.prog X.w (upd H x o) h' x o) : Inv X pins σ (upd H x o) { s with heap := h', toks := t' } := I.un (Un.write mu he k heo) (I.hok.write mu he k heo new)
/-- forgetting slots, pins -/
theorem Inv.weak {σ' : List (Option V)} (I : Inv X pins σ H s) (hl : σ'.length = σ.length) (w : ∀ (i : Nat) v, σ'[i]? = some (some v) → σ[i]? = some (some v)) : Inv X pins σ' H s :=
  ⟨I.ok, I.os, I.bare, I.base, let ⟨m, hn, hl'⟩ := I.loc; ⟨m, hn, fun i x v e1 e2 e3 => hl' i x v e1 (w i v e2) e3⟩, I.cell, I.free, I.freeC, I.pin, I.hok, hl.trans I.len⟩
theorem Inv.pins_of {pins' : List (Addr × Obj)} (I : Inv X pins σ H s) (h : ∀ p ∈ pins', s.heap.get? p.1 = some p.2 ∧ H p.1 = none ∧ p.1 ≠ X.env.locals ∧ p.1 ∉ X.fs ∧ ∀ v, p.2.data ≠ .cell v) : Inv X pins' σ H s :=
  ⟨I.ok, I.os, I.bare, I.base, I.loc, I.cell, I.free, I.freeC, fun p hp => (List.mem_append.mp hp).elim (fun z => I.pin p (List.mem_append_left _ z)) (h p), I.hok, I.len⟩

theorem nodup_ix {N : List Str} (hN : N.Nodup) {i j : Nat} {x : Str} (a : N[i]? = some x) (b : N[j]? = some x) : i = j := by
  obtain ⟨h1, e1⟩ := List.getElem?_eq_some_iff.mp a
  obtain ⟨h2, e2⟩ := List.getElem?_eq_some_iff.mp b
  exact (List.getElem_inj hN).mp (e1.trans e2.symm)

/-- a name is stored; what changed -/
theorem store_ok2 {M : Model} {A : Around} {E : Value → Shared → Prop} {i : Nat} {x : Str} {v : V} {u : Value} {Q : Unit → Shared → Prop} (I : Inv X pins σ H s) (hN : X.N.Nodup) (hi : X.N[i]? = some x) (hx : Loc X.env.scope x) (r : RelV v u)
    (h : ∀ s', Inv X pins (σ.set i (some v)) H s' → (∃ a, Heap.SameBut a s.heap s'.heap ∧ (a = X.env.locals ∨ X.env.cells.lookup x = some a)) → Q () s') (hf : X.fn x = true ∨ X.env.scope.names.lookup x = some .local := by first | exact .inl rfl | exact .inr rfl | assumption) : wpAny M A (storeName X.env x u) Q E s := by
  obtain ⟨m, hn, hl⟩ := id I.loc
  have hcls : (X.env.scope.kind == .class || (X.env.scope.kind == .module && X.env.locals != X.env.globals)) = false := by rw [I.ok.kind]; rfl
  have hiσ : i < σ.length := by rw [I.len]; exact (List.getElem?_eq_some_iff.mp hi).1
  have cne := I.cne
  have tracked : ∀ {a : Addr} {h' : Heap}, (∃ o, s.heap.get? a = some o ∧ H a = none) → Heap.SameBut a s.heap h' → HOk X.prog X.w H h' := fun {a h'} ha hs b ob e => by
    obtain ⟨_, _, hfree⟩ := ha
    refine (I.hok b ob e).stay (fun c w' hc q => (hs.2 c ?_).trans q) (fun _ q => q) fun _ _ q => q
    rintro rfl
    rcases hc with rfl | hc
    · rw [hfree] at e; cases e
    · rw [hfree] at hc; cases hc
  rcases hx with hk | hk
  · refine wpAny_storeName_local hk hn (fun h' hn' hs => ?_) hcls
    obtain ⟨oL, _, _, hoL, _⟩ := id hn
    refine h _ ⟨I.ok, I.os, I.bare, ⟨fun b o e n hb hx => ?_, fun b o e n hb hx => ?_, I.base.free, fun b o e hx => ?_, I.base.tups, I.base.frzs, I.base.tbls⟩, ⟨_, hn', fun j y v' e1 e2 e3 => ?_⟩, fun y c e => ?_, I.free, I.freeC, fun p hp => ?_, tracked ⟨oL, hoL, I.free⟩ hs, by simpa using I.len⟩ ⟨_, hs, .inl rfl⟩
    · exact (hs.2 b (Nat.ne_of_lt (Nat.lt_of_lt_of_le (Heap.lt_size e) I.ok.above))).trans (I.base.keep b o e n hb hx)
    · obtain ⟨sl, e1⟩ := I.base.slot b o e n hb hx
      exact ⟨sl, (hs.2 b (Nat.ne_of_lt (Nat.lt_of_lt_of_le (Heap.lt_size e) I.ok.above))).trans e1⟩
    · obtain ⟨o', e1⟩ := I.base.there b o e hx
      exact ⟨o', (hs.2 b (Nat.ne_of_lt (Nat.lt_of_lt_of_le (Heap.lt_size e) I.ok.above))).trans e1⟩
    · by_cases hj : j = i
      · subst hj
        rw [hi] at e1; cases e1
        rw [List.getElem?_set_self hiσ] at e2
        cases e2
        exact ⟨u, r, .inl ⟨hk, by simp⟩⟩
      · rw [List.getElem?_set_ne (Ne.symm hj)] at e2
        obtain ⟨u', r', q⟩ := hl j y v' e1 e2 e3
        refine ⟨u', r', ?_⟩
        rcases q with ⟨k, e⟩ | ⟨k, c, e, z⟩
        · refine .inl ⟨k, ?_⟩
          have : y ≠ x := fun e => hj (nodup_ix hN e1 (e ▸ hi))
          simp [this, e]
        · exact .inr ⟨k, c, e, z.sameBut hs (cne y c e)⟩
    · obtain ⟨w', z⟩ := I.cell y c e
      exact ⟨w', z.sameBut hs (cne y c e)⟩
    · obtain ⟨e, n, ne, nf, d⟩ := I.pin p hp
      exact ⟨(hs.2 p.1 ne).trans e, n, ne, nf, d⟩
  · have hfn : X.fn x = true := by
      rcases hf with z | z
      · exact z
      · rw [z] at hk; cases hk
    obtain ⟨c, hc⟩ := I.ok.has x (.inl hk)
    obtain ⟨w', z⟩ := I.cell x c hc
    refine wpAny_storeName_cell I.ok.kind hk hc z (fun h' hc' hs => ?_)
    obtain ⟨oc, hoc, hocd⟩ := id z
    refine h { s with heap := h' } ⟨I.ok, I.os, I.bare, ⟨fun b o e n hb hx => ?_, fun b o e n hb hx => ?_, I.base.free, fun b o e hx => ?_, I.base.tups, I.base.frzs, I.base.tbls⟩, ⟨m, hn.sameBut hs (Ne.symm (cne x c hc)), fun j y v' e1 e2 e3 => ?_⟩, fun y c' e => ?_, I.free, I.freeC, fun p hp => ?_, tracked ⟨oc, hoc, I.freeC x c hc⟩ hs, by simpa using I.len⟩ ⟨c, hs, .inr hc⟩
    · exact (hs.2 b (Nat.ne_of_lt (Nat.lt_of_lt_of_le (Heap.lt_size e) (I.ok.cab x c hfn hc)))).trans (I.base.keep b o e n hb hx)
    · obtain ⟨sl, e1⟩ := I.base.slot b o e n hb hx
      exact ⟨sl, (hs.2 b (Nat.ne_of_lt (Nat.lt_of_lt_of_le (Heap.lt_size e) (I.ok.cab x c hfn hc)))).trans e1⟩
    · obtain ⟨o', e1⟩ := I.base.there b o e hx
      exact ⟨o', (hs.2 b (Nat.ne_of_lt (Nat.lt_of_lt_of_le (Heap.lt_size e) (I.ok.cab x c hfn hc)))).trans e1⟩
    · by_cases hj : j = i
      · subst hj
        rw [hi] at e1; cases e1
        rw [List.getElem?_set_self hiσ] at e2
        cases e2
        exact ⟨u, r, .inr ⟨.inl hk, c, hc, hc'⟩⟩
      · rw [List.getElem?_set_ne (Ne.symm hj)] at e2
        obtain ⟨u', r', q⟩ := hl j y v' e1 e2 e3
        refine ⟨u', r', ?_⟩
        rcases q with q | ⟨k, c', e, z'⟩
        · exact .inl q
        · refine .inr ⟨k, c', e, z'.sameBut hs ?_⟩
          rintro rfl
          exact hj (nodup_ix hN e1 (I.ok.inj _ _ _ e hc ▸ hi))
    · by_cases hcc : c' = c
      · subst hcc; exact ⟨_, hc'⟩
      · obtain ⟨w2, z2⟩ := I.cell y c' e
        exact ⟨w2, z2.sameBut hs hcc⟩
    · obtain ⟨e, n, ne, nf, d⟩ := I.pin p hp
      refine ⟨(hs.2 p.1 ?_).trans e, n, ne, nf, d⟩
      intro q
      rw [q, hoc] at e
      have q' : oc = p.2 := Option.some.inj e
      exact d w' (by rw [← q']; exact hocd)
theorem store_ok {M : Model} {A : Around} {E : Value → Shared → Prop} {i : Nat} {x : Str} {v : V} {u : Value} {Q : Unit → Shared → Prop} (I : Inv X pins σ H s) (hN : X.N.Nodup) (hi : X.N[i]? = some x) (hx : Loc X.env.scope x) (r : RelV v u)
    (h : ∀ s', Inv X pins (σ.set i (some v)) H s' → Q () s') (hf : X.fn x = true ∨ X.env.scope.names.lookup x = some .local := by first | exact .inl rfl | exact .inr rfl | assumption) : wpAny M A (storeName X.env x u) Q E s :=
  store_ok2 I hN hi hx r (fun s' I' _ => h s' I') hf
/-- behind a call or a block, the state as it is -/
theorem Inv.call' {s' : Shared} {ch : List Addr} (I : Inv X pins σ H s) (ho : s'.os = s.os) (u : Un (frs X.stack) ch H H' s.heap s'.heap) (hok : HOk X.prog X.w H' s'.heap) (hg : AllBare s'.gens)
    (hch : ∀ b ∈ ch, (b ∈ X.ex ∨ X.s₀.heap.objs.size ≤ b) ∧ b ≠ X.env.locals ∧ (∀ x c, X.env.cells.lookup x = some c → c ≠ b) ∧ ∀ p ∈ X.pn ++ pins, p.1 ≠ b) : Inv X pins σ H' s' := by
  obtain ⟨h', g', d', t', o'⟩ := s'
  have e : o' = s.os := ho
  subst e
  exact I.call (g' := g') (t' := t') (d' := d') u hok hg hch
end

/-! ### the judgements -/
/-- an exception: its class, its own dict's address (where it has one), the abstract heap behind it -/
abbrev XK := Value → Option Addr → Hp → Prop
abbrev St := List (Option V)
abbrev VK := V → Hp → Prop
/-- an expression's reading; a test's; an argument list's -/
abbrev TE := St → Hp → VK → Prop
abbrev TT := St → Hp → (Bool → Hp → Prop) → Prop
abbrev TA := St → Hp → (List V → Hp → Prop) → Prop
/-- what is wanted behind a statement -/
structure Ends where
  nx : St → Hp → Prop
  rt : VK
  bk : St → Hp → Prop := fun _ _ => False
  ct : St → Hp → Prop := fun _ _ => False
abbrev TS := Ends → St → Hp → Prop

def EP (X : Cx) (pins : List (Addr × Obj)) (σ : St) (Q : VK) (u : Value) (s' : Shared) : Prop := ∃ v H', Inv X pins σ H' s' ∧ RelV v u ∧ Q v H'
def TP (X : Cx) (pins : List (Addr × Obj)) (σ : St) (Q : Bool → Hp → Prop) (b : Bool) (s' : Shared) : Prop := ∃ H', Inv X pins σ H' s' ∧ Q b H'
def AP (X : Cx) (pins : List (Addr × Obj)) (σ : St) (Q : List V → Hp → Prop) (us : List Value) (s' : Shared) : Prop := ∃ vs H', Inv X pins σ H' s' ∧ Vals vs us ∧ Q vs H'
def SP (X : Cx) (pins : List (Addr × Obj)) (D : Ends) (f : Flow) (s' : Shared) : Prop :=
  match f with
  | .next => ∃ σ' H', Inv X pins σ' H' s' ∧ D.nx σ' H'
  | .brk => ∃ σ' H', Inv X pins σ' H' s' ∧ D.bk σ' H'
  | .cont => ∃ σ' H', Inv X pins σ' H' s' ∧ D.ct σ' H'
  | .ret u => ∃ v σ' H', Inv X pins σ' H' s' ∧ RelV v u ∧ D.rt v H'

def PE (X : Cx) (e : Expr) (t : TE) : Prop :=
  ∀ (pins : List (Addr × Obj)) (s : Shared) (σ : St) (H : Hp) (Q : VK), Inv X pins σ H s → t σ H Q → wpAny (model X.prog X.w) X.A (eval e X.env) (EP X pins σ Q) X.xe s
def PT (X : Cx) (e : Expr) (t : TT) : Prop :=
  ∀ (pins : List (Addr × Obj)) (s : Shared) (σ : St) (H : Hp) (Q : Bool → Hp → Prop), Inv X pins σ H s → t σ H Q → wpAny (model X.prog X.w) X.A (isTrue e X.env (eval e X.env)) (TP X pins σ Q) X.xe s
/-- a test whatever its 'whole' is (and, or) -/
def PW (X : Cx) (e : Expr) (t : TT) : Prop :=
  ∀ (whole : Sem Value) (pins : List (Addr × Obj)) (s : Shared) (σ : St) (H : Hp) (Q : Bool → Hp → Prop), Inv X pins σ H s → t σ H Q → wpAny (model X.prog X.w) X.A (isTrue e X.env whole) (TP X pins σ Q) X.xe s
theorem PW.pt {X : Cx} {e : Expr} {t : TT} (h : PW X e t) : PT X e t := h _
/-- an argument list (no star), from the left -/
def PA (X : Cx) (es : List Expr) (t : TA) : Prop :=
  ∀ (pos : Pos) (pins : List (Addr × Obj)) (s : Shared) (σ : St) (H : Hp) (Q : List V → Hp → Prop), Inv X pins σ H s → t σ H Q → wpAny (model X.prog X.w) X.A (spliced (backTo pos (starEach es X.env))) (AP X pins σ Q) X.xe s
def PS (X : Cx) (st : Stmt) (t : TS) : Prop :=
  ∀ (pins : List (Addr × Obj)) (s : Shared) (σ : St) (H : Hp) (D : Ends), Inv X pins σ H s → t D σ H → wpAny (model X.prog X.w) X.A (exec st X.env) (SP X pins D) X.xe s
def PSs (X : Cx) (st : List Stmt) (t : TS) : Prop :=
  ∀ (pins : List (Addr × Obj)) (s : Shared) (σ : St) (H : Hp) (D : Ends), Inv X pins σ H s → t D σ H → wpAny (model X.prog X.w) X.A (execs st X.env) (SP X pins D) X.xe s
/-- weaken the end -/
theorem thn {α : Type} {t : Sem α} {Q Q' : α → Shared → Prop} {M : Model} {A : Around} {E : Value → Shared → Prop} {s : Shared} (h : wpAny M A t Q E s) (hQ : ∀ a s, Q a s → Q' a s) : wpAny M A t Q' E s := wpAny_mono h hQ fun _ _ x => x
end L2

namespace L2
open PySem PySem.Spec PyProof.Rows
section
variable {X : Cx}

/-- two expressions in a row -/
theorem bin {a b : Expr} {ta tb : TE} (ha : PE X a ta) (hb : PE X b tb) {pins : List (Addr × Obj)} {s : Shared} {σ : St} {H : Hp} {R : V → V → Hp → Prop} (I : Inv X pins σ H s) (h : ta σ H fun x H1 => tb σ H1 fun y H2 => R x y H2)
    {α : Type} {Q : α → Shared → Prop} {f : Value → Value → Sem α}
    (hf : ∀ v u s2 x y H2, Inv X pins σ H2 s2 → RelV x v → RelV y u → R x y H2 → wpAny (model X.prog X.w) X.A (f v u) Q X.xe s2) :
    wpAny (model X.prog X.w) X.A (eval a X.env) (fun v s₁ => wpAny (model X.prog X.w) X.A (eval b X.env) (fun u s₂ => wpAny (model X.prog X.w) X.A (f v u) Q X.xe s₂) X.xe s₁) X.xe s := by
  refine thn (ha pins s σ H _ I h) fun v s1 ⟨x, H1, I1, r1, q1⟩ => ?_
  refine thn (hb pins s1 σ H1 _ I1 q1) fun u s2 ⟨y, H2, I2, r2, q2⟩ => ?_
  exact hf v u s2 x y H2 I2 r1 r2 q2

/-! ### names and constants -/
def tVar (i : Nat) : TE := fun σ H Q => ∃ v, σ[i]? = some (some v) ∧ Q v H
def tC (v : V) : TE := fun _ H Q => Q v H
theorem pe_var {i : Nat} {x : Str} {pos : Pos} (hN : X.N[i]? = some x) (hv : Vis X.env.scope x) (hd : (x == ("__debug__" : Str)) = false := by decide) (hcd : (x == ("__classdict__" : Str)) = false := by decide) : PE X (.Name x pos) (tVar i) := by
  intro pins s σ H Q I h
  obtain ⟨v, e, h⟩ := h
  obtain ⟨m, hn, hl⟩ := I.loc
  obtain ⟨u, r, l⟩ := hl i x v hN e hv
  have fin : EP X pins σ Q u s := ⟨v, H, I, r, h⟩
  rcases l with ⟨hk, hm⟩ | ⟨hk, c, hc, hcell⟩
  · exact wpAny_Name (wpAny_loadName_local I.ok.kind hk hn hm fin) hd
  · rcases hk with hk | hk
    · exact wpAny_Name (wpAny_loadName_cell I.ok.kind hk hc hcell fin) hd
    · exact wpAny_Name (wpAny_loadName_free I.ok.kind hk hc hcell fin hcd) hd
theorem pe_int {i j pos} : PE X (.Constant (.int i) j pos) (tC (.int i)) := fun _ _ _ H _ I h => wpAny_Constant_int ⟨.int i, H, I.tok _, ⟨_, rfl⟩, h⟩
theorem pe_bl {b j pos} : PE X (.Constant (.bool b) j pos) (tC (.bl b)) := fun _ _ _ H _ I h => Constant_bool ⟨.bl b, H, I, rfl, h⟩
theorem pe_non {j pos} : PE X (.Constant .none j pos) (tC .non) := fun _ _ _ H _ I h => Constant_none ⟨.non, H, I, rfl, h⟩
theorem pe_str {x j pos} : PE X (.Constant (.str x) j pos) (tC (.str x)) := fun _ _ _ H _ I h => Calls.Constant_str ⟨.str x, H, I.tok _, ⟨_, rfl⟩, h⟩

/-- a global name of the def -/
def Gl (X : Cx) (x : Str) : Prop := X.env.kindOf x = some .globalImplicit
theorem ld_glob {E : Value → Shared → Prop} {pins : List (Addr × Obj)} {s : Shared} {σ : St} {H : Hp} {x : Str} {u : Value} {pos : Pos} {Q : Value → Shared → Prop} (I : Inv X pins σ H s) (hg : Gl X x) (hm : X.mg x = some u) (h : Q u s)
    (hd : (x == ("__debug__" : Str)) = false := by decide) : wpAny (model X.prog X.w) X.A (eval (.Name x pos) X.env) Q E s :=
  Calls.Name_function_global I.ok.kind hg (Calls.loadGlobal_global (by rw [I.ok.glob]; exact I.mod.glob.keeps I.bk) hm h) hd
theorem ld_blt {E : Value → Shared → Prop} {pins : List (Addr × Obj)} {s : Shared} {σ : St} {H : Hp} {x : Str} {u : Value} {pos : Pos} {Q : Value → Shared → Prop} (I : Inv X pins σ H s) (hg : Gl X x) (hm : X.mg x = none) (hv : bootBuiltins x = some u) (h : Q u s)
    (hn : x ≠ "__name__" := by decide) (hd : (x == ("__debug__" : Str)) = false := by decide) : wpAny (model X.prog X.w) X.A (eval (.Name x pos) X.env) Q E s := by
  obtain ⟨mb, h1, h2⟩ := I.mod.blt
  exact Calls.Name_function_global I.ok.kind hg (Calls.loadGlobal_builtin (by rw [I.ok.glob]; exact I.mod.glob.keeps I.bk) hm (by rw [I.ok.blt]; exact h1.keeps I.bk) ((h2 x hn).trans hv) h) hd
/-- a module's constant, a class, a function, as a value -/
theorem pe_glob {x : Str} {v : V} {u : Value} {pos : Pos} (hg : Gl X x) (hm : X.mg x = some u) (r : RelV v u) (hd : (x == ("__debug__" : Str)) = false := by decide) : PE X (.Name x pos) (tC v) :=
  fun _ _ _ H _ I h => ld_glob I hg hm ⟨v, H, I, r, h⟩ hd
theorem pe_bltn {x : Str} {v : V} {u : Value} {pos : Pos} (hg : Gl X x) (hm : X.mg x = none) (hv : bootBuiltins x = some u) (r : RelV v u) (hn : x ≠ "__name__" := by decide) (hd : (x == ("__debug__" : Str)) = false := by decide) : PE X (.Name x pos) (tC v) :=
  fun _ _ _ H _ I h => ld_blt I hg hm hv ⟨v, H, I, r, h⟩ hn hd

/-! ### arithmetic -/
/-- two ints -/
def t2I (ta tb : TE) (k : Int → Int → Hp → Prop) : St → Hp → Prop := fun σ H => ta σ H fun x H1 => tb σ H1 fun y H2 => ∃ i j, x = .int i ∧ y = .int j ∧ k i j H2
def tAdd (ta tb : TE) : TE := fun σ H Q => t2I ta tb (fun i j H2 => Q (.int (i + j)) H2) σ H
def tSub (ta tb : TE) : TE := fun σ H Q => t2I ta tb (fun i j H2 => Q (.int (i - j)) H2) σ H
/-- the left factor below 2^64 -/
def tMul (ta tb : TE) : TE := fun σ H Q => t2I ta tb (fun i j H2 => (-(2 ^ 64) < i ∧ i < 2 ^ 64) ∧ Q (.int (i * j)) H2) σ H
variable {a b : Expr} {ta tb : TE} {pos : Pos}
theorem pe_add (ha : PE X a ta) (hb : PE X b tb) : PE X (.BinOp a .Add b pos) (tAdd ta tb) := by
  intro pins s σ H Q I h
  refine wpAny_BinOp (bin ha hb I h fun v u s2 x y H2 I2 rx ry q => ?_)
  obtain ⟨i, j, rfl, rfl, q⟩ := q
  obtain ⟨t, rfl⟩ := rx
  obtain ⟨t', rfl⟩ := ry
  exact add_int ⟨.int _, H2, I2.tok _, ⟨_, rfl⟩, q⟩
theorem pe_sub (ha : PE X a ta) (hb : PE X b tb) : PE X (.BinOp a .Sub b pos) (tSub ta tb) := by
  intro pins s σ H Q I h
  refine wpAny_BinOp (bin ha hb I h fun v u s2 x y H2 I2 rx ry q => ?_)
  obtain ⟨i, j, rfl, rfl, q⟩ := q
  obtain ⟨t, rfl⟩ := rx
  obtain ⟨t', rfl⟩ := ry
  exact sub_int ⟨.int _, H2, I2.tok _, ⟨_, rfl⟩, q⟩
theorem pe_mul (ha : PE X a ta) (hb : PE X b tb) : PE X (.BinOp a .Mult b pos) (tMul ta tb) := by
  intro pins s σ H Q I h
  refine wpAny_BinOp (bin ha hb I h fun v u s2 x y H2 I2 rx ry q => ?_)
  obtain ⟨i, j, rfl, rfl, ⟨q1, q2⟩, q⟩ := q
  obtain ⟨t, rfl⟩ := rx
  obtain ⟨t', rfl⟩ := ry
  exact mul_int ⟨.int _, H2, I2.tok _, ⟨_, rfl⟩, q⟩ (.of_left (intBits_le_64 q1 q2))

/-! ### comparisons -/
def PC (X : Cx) (op : CmpOp) (a b : Expr) (t : TE) : Prop :=
  ∀ (pins : List (Addr × Obj)) (s : Shared) (σ : St) (H : Hp) (Q : VK), Inv X pins σ H s → t σ H Q →
    wpAny (model X.prog X.w) X.A (eval a X.env) (fun v s₁ => wpAny (model X.prog X.w) X.A (eval b X.env) (fun u s₂ => wpAny (model X.prog X.w) X.A (compareOp op v u) (EP X pins σ Q) X.xe s₂) X.xe s₁) X.xe s
theorem nobehind (b : Expr) {op : CmpOp} (h : op ≠ .In) (h2 : op ≠ .NotIn) : behindInMarks op b = false := by
  have e1 : (op == CmpOp.In) = false := by cases op <;> first | rfl | exact absurd rfl h
  have e2 : (op == CmpOp.NotIn) = false := by cases op <;> first | rfl | exact absurd rfl h2
  cases b <;> simp [behindInMarks, e1, e2]
def tCmp (p : Int → Int → Bool) (ta tb : TE) : TE := fun σ H Q => t2I ta tb (fun i j H2 => Q (.bl (p i j)) H2) σ H
abbrev tLt : TE → TE → TE := tCmp fun i j => decide (i < j)
abbrev tLe : TE → TE → TE := tCmp fun i j => decide (i ≤ j)
abbrev tGt : TE → TE → TE := tCmp fun i j => decide (j < i)
abbrev tGe : TE → TE → TE := tCmp fun i j => decide (j ≤ i)
abbrev tEqI : TE → TE → TE := tCmp fun i j => decide (i = j)
abbrev tNeI : TE → TE → TE := tCmp fun i j => !decide (i = j)
/-- a comparison of two ints, by its rule -/
theorem pc_int {op : CmpOp} {p : Int → Int → Bool} (ha : PE X a ta) (hb : PE X b tb)
    (rule : ∀ (i j : Int) (t u : Tok) (Q : Value → Shared → Prop) (s : Shared), Q (.bool (p i j)) s → wpAny (model X.prog X.w) X.A (compareOp op (.int i t) (.int j u)) Q X.xe s) : PC X op a b (tCmp p ta tb) := by
  intro pins s σ H Q I h
  refine bin ha hb I h fun v u s2 x y H2 I2 rx ry q => ?_
  obtain ⟨i, j, rfl, rfl, q⟩ := q
  obtain ⟨t, rfl⟩ := rx
  obtain ⟨t', rfl⟩ := ry
  exact rule i j t t' _ s2 ⟨.bl _, H2, I2, rfl, q⟩
theorem pc_lt (ha : PE X a ta) (hb : PE X b tb) : PC X .Lt a b (tLt ta tb) := pc_int ha hb fun _ _ _ _ _ _ h => lt_int h
theorem pc_le (ha : PE X a ta) (hb : PE X b tb) : PC X .LtE a b (tLe ta tb) := pc_int ha hb fun _ _ _ _ _ _ h => le_int h
theorem pc_gt (ha : PE X a ta) (hb : PE X b tb) : PC X .Gt a b (tGt ta tb) := pc_int ha hb fun _ _ _ _ _ _ h => gt_int h
theorem pc_ge (ha : PE X a ta) (hb : PE X b tb) : PC X .GtE a b (tGe ta tb) := pc_int ha hb fun _ _ _ _ _ _ h => ge_int h
theorem pc_eqI (ha : PE X a ta) (hb : PE X b tb) : PC X .Eq a b (tEqI ta tb) := pc_int ha hb fun _ _ _ _ _ _ h => eq_int (by rw [Bool.beq_eq_decide_eq]; exact h)
theorem pc_neI (ha : PE X a ta) (hb : PE X b tb) : PC X .NotEq a b (tNeI ta tb) := pc_int ha hb fun _ _ _ _ _ _ h => ne_int (by rw [bne, Bool.beq_eq_decide_eq]; exact h)
/-- is None -/
def tIsN (ta : TE) : TE := fun σ H Q => ta σ H fun x H1 => Q (.bl (decide (x = .non))) H1
def tNotN (ta : TE) : TE := fun σ H Q => ta σ H fun x H1 => Q (.bl (!decide (x = .non))) H1
theorem RelV.none_iff {x : V} {v : Value} (r : RelV x v) : (v == Value.none) = decide (x = .non) := by
  cases x with
  | non => cases r; rfl
  | bl _ => cases r; rfl
  | int _ => obtain ⟨t, rfl⟩ := r; rfl
  | str _ => obtain ⟨t, rfl⟩ := r; rfl
  | byt _ => obtain ⟨t, rfl⟩ := r; rfl
  | flt _ => obtain ⟨t, rfl⟩ := r; rfl
  | ref _ => cases r; rfl
  | ty _ => cases r; rfl
theorem pc_isN {j pos'} (ha : PE X a ta) : PC X .Is a (.Constant .none j pos') (tIsN ta) := by
  intro pins s σ H Q I h
  refine thn (ha pins s σ H _ I h) fun v s1 ⟨x, H1, I1, r1, q1⟩ => ?_
  exact Constant_none (is_none_gen ⟨.bl _, H1, I1, by rw [r1.none_iff]; rfl, q1⟩)
theorem pc_notN {j pos'} (ha : PE X a ta) : PC X .IsNot a (.Constant .none j pos') (tNotN ta) := by
  intro pins s σ H Q I h
  refine thn (ha pins s σ H _ I h) fun v s1 ⟨x, H1, I1, r1, q1⟩ => ?_
  exact Constant_none (isnot_none_gen ⟨.bl _, H1, I1, by rw [r1.none_iff]; rfl, q1⟩)
/-- a comparison as a value, as a test -/
def tB (t : TE) : TT := fun σ H Q => t σ H fun x H1 => ∃ c, x = .bl c ∧ Q c H1
theorem pe_cmp {op : CmpOp} {t : TE} (h : PC X op a b t) (h1 : behindInMarks op b = false := by first | exact nobehind _ (by decide) (by decide) | rfl) : PE X (.Compare a [op] [b] pos) t := fun pins s σ H Q I hw => wpAny_Compare1 (h pins s σ H Q I hw) h1
theorem pt_cmp {op : CmpOp} {t : TE} (h : PC X op a b t) (h1 : behindInMarks op b = false := by first | exact nobehind _ (by decide) (by decide) | rfl) : PT X (.Compare a [op] [b] pos) (tB t) := by
  intro pins s σ H Q I hw
  refine wpAny_isTrue_Compare1 (thn (h pins s σ H _ I hw) fun v s1 h1 => thn h1 fun u s2 h2 => thn h2 fun c s3 ⟨x, H1, I1, r1, q1⟩ => ?_) h1
  obtain ⟨d, rfl, q⟩ := q1
  cases r1
  exact wpAny_truthy_bool ⟨H1, I1, q⟩
/-- an expression whose value is a bool, as a test -/
theorem pt_val {e : Expr} {t : TE} (h : PE X e t) (he : ∀ whole, isTrue e X.env whole = (do let v ← whole; standAt e.pos; holding [v] (truthy v)) := by intro _; rfl) : PT X e (tB t) := by
  intro pins s σ H Q I hw
  refine isTrue_plain (thn (h pins s σ H _ I hw) fun v s1 ⟨x, H1, I1, r1, q1⟩ => ?_) (he _)
  obtain ⟨d, rfl, q⟩ := q1
  cases r1
  exact wpAny_truthy_bool ⟨H1, I1, q⟩

/-! ### and, or, not -/
variable {tA tB' : TT} {rest : List Expr}
def tAnd (t u : TT) : TT := fun σ H Q => t σ H fun c H1 => if c = true then u σ H1 Q else Q false H1
def tOr (t u : TT) : TT := fun σ H Q => t σ H fun c H1 => if c = true then Q true H1 else u σ H1 Q
def tNot (t : TT) : TT := fun σ H Q => t σ H fun c H1 => Q (!c) H1
theorem pw_and1 (ha : PT X a tA) : PW X (.BoolOp .And [a] pos) tA := by
  intro wh pins s σ H Q I h
  refine isTrue_and (thn (ha pins s σ H Q I h) fun c s1 e => ?_)
  cases c with
  | true => exact isTrue_and_nil e
  | false => exact e
theorem pw_or1 (ha : PT X a tA) : PW X (.BoolOp .Or [a] pos) tA := by
  intro wh pins s σ H Q I h
  refine isTrue_or (thn (ha pins s σ H Q I h) fun c s1 e => ?_)
  cases c with
  | false => exact isTrue_or_nil e
  | true => exact e
theorem pw_and (ha : PT X a tA) (hb : PW X (.BoolOp .And (b :: rest) pos) tB') : PW X (.BoolOp .And (a :: b :: rest) pos) (tAnd tA tB') := by
  intro wh pins s σ H Q I h
  refine isTrue_and (thn (ha pins s σ H _ I h) fun c s1 ⟨H1, I1, q1⟩ => ?_)
  cases c with
  | true => exact hb wh pins s1 σ H1 Q I1 q1
  | false => exact ⟨H1, I1, q1⟩
theorem pw_or (ha : PT X a tA) (hb : PW X (.BoolOp .Or (b :: rest) pos) tB') : PW X (.BoolOp .Or (a :: b :: rest) pos) (tOr tA tB') := by
  intro wh pins s σ H Q I h
  refine isTrue_or (thn (ha pins s σ H _ I h) fun c s1 ⟨H1, I1, q1⟩ => ?_)
  cases c with
  | true => exact ⟨H1, I1, q1⟩
  | false => exact hb wh pins s1 σ H1 Q I1 q1
theorem pt_not (ha : PT X a tA) : PT X (.UnaryOp .Not a pos) (tNot tA) := by
  intro pins s σ H Q I h
  exact isTrue_not (ha pins s σ H (fun c H1 => Q (!c) H1) I h)
/-- .. as values (bools) -/
def tAndV (ta tb : TE) : TE := fun σ H Q => ta σ H fun x H1 => ∃ c, x = .bl c ∧ if c = true then tb σ H1 Q else Q (.bl false) H1
def tOrV (ta tb : TE) : TE := fun σ H Q => ta σ H fun x H1 => ∃ c, x = .bl c ∧ if c = true then Q (.bl true) H1 else tb σ H1 Q
def tNotV (ta : TE) : TE := fun σ H Q => ta σ H fun x H1 => ∃ c, x = .bl c ∧ Q (.bl (!c)) H1
theorem pe_one {op} {t : TE} (h : PE X a t) : PE X (.BoolOp op [a] pos) t := fun pins s σ H Q I hw => BoolOp_one (h pins s σ H Q I hw)
theorem pe_and (ha : PE X a ta) (hb : PE X (.BoolOp .And (b :: rest) pos) tb) : PE X (.BoolOp .And (a :: b :: rest) pos) (tAndV ta tb) := by
  intro pins s σ H Q I h
  refine BoolOp_and (thn (ha pins s σ H _ I h) fun v s1 ⟨x, H1, I1, r1, q1⟩ => ?_)
  obtain ⟨c, rfl, q1⟩ := q1
  cases r1
  refine wpAny_truthy_bool ?_
  cases c with
  | true => exact hb pins s1 σ H1 Q I1 q1
  | false => exact ⟨.bl false, H1, I1, rfl, q1⟩
theorem pe_or (ha : PE X a ta) (hb : PE X (.BoolOp .Or (b :: rest) pos) tb) : PE X (.BoolOp .Or (a :: b :: rest) pos) (tOrV ta tb) := by
  intro pins s σ H Q I h
  refine BoolOp_or (thn (ha pins s σ H _ I h) fun v s1 ⟨x, H1, I1, r1, q1⟩ => ?_)
  obtain ⟨c, rfl, q1⟩ := q1
  cases r1
  refine wpAny_truthy_bool ?_
  cases c with
  | false => exact hb pins s1 σ H1 Q I1 q1
  | true => exact ⟨.bl true, H1, I1, rfl, q1⟩
theorem pe_not (ha : PE X a ta) : PE X (.UnaryOp .Not a pos) (tNotV ta) := by
  intro pins s σ H Q I h
  refine UnaryOp_ (thn (ha pins s σ H _ I h) fun v s1 ⟨x, H1, I1, r1, q1⟩ => ?_)
  obtain ⟨c, rfl, q1⟩ := q1
  cases r1
  exact not_of (wpAny_truthy_bool ⟨.bl (!c), H1, I1, rfl, q1⟩)
/-- a if t else b -/
def tIf (t : TT) (ta tb : TE) : TE := fun σ H Q => t σ H fun c H1 => if c = true then ta σ H1 Q else tb σ H1 Q
theorem pe_ifExp {c : Expr} (hc : PT X c tA) (ha : PE X a ta) (hb : PE X b tb) : PE X (.IfExp c a b pos) (tIf tA ta tb) := by
  intro pins s σ H Q I h
  refine wpAny_IfExp (thn (hc pins s σ H _ I h) fun d s1 ⟨H1, I1, q1⟩ => ?_)
  cases d with
  | true => exact ha pins s1 σ H1 Q I1 q1
  | false => exact hb pins s1 σ H1 Q I1 q1
end
end L2

namespace L2
open PySem PySem.Spec PyProof.Rows

/-! ### a list, a tuple that is read: tracked, frozen, or an object of the module -/
def SqL (K : PySem.W.Frag) (H : Hp) (a : Addr) (xs : List V) : Prop :=
  Rd H a (.lst xs) ∨
    ∃ (o : Obj) (its : Array Value) (n : Nat), K.lookup a = some o ∧ o.cls = .type "list" ∧ o.dict = none ∧ o.data = .seq its n ∧ its.size ≤ sizeLine ∧ Vals xs its.toList
def SqT (K : PySem.W.Frag) (H : Hp) (a : Addr) (xs : List V) : Prop :=
  Rd H a (.tup xs) ∨
    ∃ (o : Obj) (its : Array Value) (n : Nat), K.lookup a = some o ∧ o.cls = .type "tuple" ∧ o.data = .seq its n ∧ its.size ≤ sizeLine ∧ Vals xs its.toList
def absV : Value → Option V
  | .none => some .non
  | .bool b => some (.bl b)
  | .int i _ => some (.int i)
  | .str x _ => some (.str x)
  | .bytes b _ => some (.byt b)
  | .float b _ => some (.flt b)
  | .ref a => some (.ref a)
  | .type n => some (.ty n)
  | _ => none
theorem RelV.abs {x : V} {u : Value} (r : RelV x u) : absV u = some x := by
  cases x with
  | non => cases r; rfl
  | bl _ => cases r; rfl
  | int _ => obtain ⟨t, rfl⟩ := r; rfl
  | str _ => obtain ⟨t, rfl⟩ := r; rfl
  | byt _ => obtain ⟨t, rfl⟩ := r; rfl
  | flt _ => obtain ⟨t, rfl⟩ := r; rfl
  | ref _ => cases r; rfl
  | ty _ => cases r; rfl
theorem RelV.inj {x y : V} {u : Value} (r : RelV x u) (q : RelV y u) : x = y := Option.some.inj (r.abs.symm.trans q.abs)
theorem Vals.inj : ∀ {xs ys : List V} {us : List Value}, Vals xs us → Vals ys us → xs = ys
  | _, _, _, .nil, .nil => rfl
  | _, _, _, .cons r t, .cons r' t' => by rw [r.inj r', Vals.inj t t']
section
variable {X : Cx} {pins : List (Addr × Obj)} {σ : St} {H : Hp} {s : Shared} {a : Addr} {xs ys : List V}
theorem SqL.of {K : PySem.W.Frag} (h : H a = some (.lst xs)) : SqL K H a xs := .inl (.inl h)
theorem SqT.of {K : PySem.W.Frag} (h : H a = some (.tup xs)) : SqT K H a xs := .inl (.inl h)
theorem Inv.list (I : Inv X pins σ H s) (h : SqL X.K H a xs) : ∃ its : List Value, Vals xs its ∧ PlainL s.heap a its.toArray ∧ xs.length ≤ sizeLine := by
  rcases h with h | ⟨o, its, n, hk, hc, hd, hs, hz, r⟩
  · obtain ⟨z, its, n, r, e⟩ := h.ok I.hok
    exact ⟨its, r, ⟨_, n, e, rfl, rfl, rfl⟩, z⟩
  · refine ⟨its.toList, r, ⟨o, n, I.kIn a o hk, hc, hd, by simpa using hs⟩, ?_⟩
    have e := r.length
    simp only [Array.length_toList] at e
    omega
theorem Inv.tuple (I : Inv X pins σ H s) (h : SqT X.K H a xs) : ∃ its : List Value, Vals xs its ∧ IsTup s.heap a its.toArray ∧ xs.length ≤ sizeLine := by
  rcases h with h | ⟨o, its, n, hk, hc, hs, hz, r⟩
  · obtain ⟨z, its, r, p⟩ := h.ok I.hok
    exact ⟨its, r, p, z⟩
  · refine ⟨its.toList, r, ⟨o, I.kIn a o hk, hc, n, by simpa using hs⟩, ?_⟩
    have e := r.length
    simp only [Array.length_toList] at e
    omega
theorem Inv.list_inj (I : Inv X pins σ H s) (h : SqL X.K H a xs) (h' : SqL X.K H a ys) : xs = ys := by
  obtain ⟨its, r, ⟨o, n, e, _, _, d⟩, _⟩ := I.list h
  obtain ⟨its', r', ⟨o', n', e', _, _, d'⟩, _⟩ := I.list h'
  rw [e] at e'; cases e'
  rw [d] at d'
  injection d' with d1 _
  have : its = its' := by simpa using congrArg Array.toList d1
  subst this
  exact r.inj r'
theorem Inv.tuple_inj (I : Inv X pins σ H s) (h : SqT X.K H a xs) (h' : SqT X.K H a ys) : xs = ys := by
  obtain ⟨its, r, ⟨o, e, _, n, d⟩, _⟩ := I.tuple h
  obtain ⟨its', r', ⟨o', e', _, n', d'⟩, _⟩ := I.tuple h'
  rw [e] at e'; cases e'
  rw [d] at d'
  injection d' with d1 _
  have : its = its' := by simpa using congrArg Array.toList d1
  subst this
  exact r.inj r'
end

/-! ### another wish about exceptions -/
abbrev Cx.wish (X : Cx) (E : Value → Shared → Prop) : Cx := { X with xe := E }
/-- no exception leaves -/
abbrev Cx.nox (X : Cx) : Cx := X.wish fun _ _ => False
theorem Cx.Ok.wish {X : Cx} (ok : X.Ok) (E : Value → Shared → Prop) : (X.wish E).Ok :=
  ⟨ok.mod, ok.kind, ok.glob, ok.blt, ok.above, ok.inj, ok.has, ok.cab, ok.hd, ok.frames, ok.stk, ok.exf, ok.bs, ok.bsz, ok.noex, ok.exfs, ok.funs, ok.frf⟩
theorem Cx.Ok.unwish {X : Cx} {E : Value → Shared → Prop} (ok : (X.wish E).Ok) : X.Ok :=
  ⟨ok.mod, ok.kind, ok.glob, ok.blt, ok.above, ok.inj, ok.has, ok.cab, ok.hd, ok.frames, ok.stk, ok.exf, ok.bs, ok.bsz, ok.noex, ok.exfs, ok.funs, ok.frf⟩
section
variable {X : Cx} {pins : List (Addr × Obj)} {σ : St} {H : Hp} {s : Shared} {E : Value → Shared → Prop}
theorem Inv.wish (I : Inv X pins σ H s) (E : Value → Shared → Prop) : Inv (X.wish E) pins σ H s := ⟨I.ok.wish E, I.os, I.bare, I.base, I.loc, I.cell, I.free, I.freeC, I.pin, I.hok, I.len⟩
theorem Inv.unwish (I : Inv (X.wish E) pins σ H s) : Inv X pins σ H s := ⟨I.ok.unwish, I.os, I.bare, I.base, I.loc, I.cell, I.free, I.freeC, I.pin, I.hok, I.len⟩
theorem SP.unwish {D : Ends} {f : Flow} {s' : Shared} (h : SP (X.wish E) pins D f s') : SP X pins D f s' := by
  cases f with
  | next => obtain ⟨σ', H', I, q⟩ := h; exact ⟨σ', H', I.unwish, q⟩
  | brk => obtain ⟨σ', H', I, q⟩ := h; exact ⟨σ', H', I.unwish, q⟩
  | cont => obtain ⟨σ', H', I, q⟩ := h; exact ⟨σ', H', I.unwish, q⟩
  | ret u => obtain ⟨v, σ', H', I, r, q⟩ := h; exact ⟨v, σ', H', I.unwish, r, q⟩
theorem PE.nox {e : Expr} {t : TE} (h : PE X.nox e t) : PE X e t := fun pins s σ H Q I hw =>
  wpAny_mono (h pins s σ H Q (I.wish _) hw) (fun _ _ ⟨v, H', I', r, q⟩ => ⟨v, H', I'.unwish, r, q⟩) fun _ _ z => False.elim z
theorem PT.nox {e : Expr} {t : TT} (h : PT X.nox e t) : PT X e t := fun pins s σ H Q I hw =>
  wpAny_mono (h pins s σ H Q (I.wish _) hw) (fun _ _ ⟨H', I', q⟩ => ⟨H', I'.unwish, q⟩) fun _ _ z => False.elim z
theorem PSs.nox {st : List Stmt} {t : TS} (h : PSs X.nox st t) : PSs X st t := fun pins s σ H D I hw =>
  wpAny_mono (h pins s σ H D (I.wish _) hw) (fun _ _ q => q.unwish) fun _ _ z => False.elim z
end

/-! ### blocks and small statements -/
section
variable {X : Cx} {st : Stmt} {rest : List Stmt} {t u : TS} {e : Expr} {te : TE} {pos : Pos}
def tNext : TS := fun D σ H => D.nx σ H
def tSeq (t u : TS) : TS := fun D σ H => t { D with nx := u D } σ H
theorem pss_nil : PSs X [] tNext := fun _ _ σ H _ I h => wpAny_execs_nil ⟨σ, H, I, h⟩
theorem pss_cons (h1 : PS X st t) (h2 : PSs X rest u) : PSs X (st :: rest) (tSeq t u) := by
  intro pins s σ H D I h
  refine wpAny_execs_cons (thn (h1 pins s σ H { D with nx := u D } I h) fun f s1 q => ?_)
  cases f with
  | next =>
    obtain ⟨σ', H', I', q⟩ := q
    exact h2 pins s1 σ' H' D I' q
  | ret v => exact q
  | brk => exact q
  | cont => exact q
theorem pss_one (h1 : PS X st t) : PSs X [st] t := by
  intro pins s σ H D I h
  refine wpAny_execs_cons (thn (h1 pins s σ H D I h) fun f s1 q => ?_)
  cases f with
  | next => exact wpAny_execs_nil q
  | ret v => exact q
  | brk => exact q
  | cont => exact q
def tBreak : TS := fun D σ H => D.bk σ H
def tCont : TS := fun D σ H => D.ct σ H
theorem ps_pass : PS X (.Pass pos) tNext := fun _ _ σ H _ I h => wpAny_Pass ⟨σ, H, I, h⟩
theorem ps_break : PS X (.Break pos) tBreak := fun _ _ σ H _ I h => wpAny_Break ⟨σ, H, I, h⟩
theorem ps_continue : PS X (.Continue pos) tCont := fun _ _ σ H _ I h => wpAny_Continue ⟨σ, H, I, h⟩
/-- in a def's body nothing is shown -/
theorem Inv.quiet {pins : List (Addr × Obj)} {σ : St} {H : Hp} {s : Shared} (I : Inv X pins σ H s) : interactive X.env = false := by simp [interactive, I.ok.kind]
/-- a docstring -/
theorem ps_doc {x j pos pos'} : PS X (.Expr (.Constant (.str x) j pos) pos') tNext := fun _ s σ H _ I h => wpAny_Expr (Calls.Constant_str (show SP X _ _ .next { s with toks := s.toks + 1 } from ⟨σ, H, I.tok _, h⟩)) I.quiet
/-- an expression whose value is dropped -/
def tDrop (te : TE) : TS := fun D σ H => te σ H fun _ H1 => D.nx σ H1
theorem ps_expr (he : PE X e te) (hs : swapsWith e none pos.line X.env = pure false := by rfl) : PS X (.Expr e pos) (tDrop te) := by
  intro pins s σ H D I h
  exact wpAny_Expr_any (thn (he pins s σ H _ I h) fun v s1 ⟨x, H1, I1, r1, q1⟩ => ⟨σ, H1, I1, q1⟩) I.quiet hs
def tRet (te : TE) : TS := fun D σ H => te σ H D.rt
theorem ps_ret (he : PE X e te) : PS X (.Return (some e) pos) (tRet te) := by
  intro pins s σ H D I h
  exact wpAny_Return_some (thn (he pins s σ H _ I h) fun v s1 ⟨x, H1, I1, r1, q1⟩ => ⟨x, σ, H1, I1, r1, q1⟩)
def tRetN : TS := fun D _ H => D.rt .non H
theorem ps_retN : PS X (.Return none pos) tRetN := fun _ _ σ H _ I h => wpAny_Return_none ⟨.non, σ, H, I, rfl, h⟩
def tIfS (c : TT) (t u : TS) : TS := fun D σ H => c σ H fun b H1 => if b = true then t D σ H1 else u D σ H1
theorem ps_if {c : Expr} {a b : List Stmt} {tc : TT} (hc : PT X c tc) (ha : PSs X a t) (hb : PSs X b u) : PS X (.If c a b pos) (tIfS tc t u) := by
  intro pins s σ H D I h
  refine wpAny_If (thn (hc pins s σ H _ I h) fun d s1 ⟨H1, I1, q1⟩ => ?_)
  cases d with
  | true => exact ha pins s1 σ H1 D I1 q1
  | false => exact hb pins s1 σ H1 D I1 q1
/-- code that the proof never comes to -/
def tNever : TS := fun _ _ _ => False
theorem ps_never : PS X st tNever := fun _ _ _ _ _ _ h => h.elim
theorem pss_never {sts : List Stmt} : PSs X sts tNever := fun _ _ _ _ _ _ h => h.elim
end

/-! ### targets -/
abbrev TG := V → St → Hp → (St → Hp → Prop) → Prop
abbrev TGs := List V → St → Hp → (St → Hp → Prop) → Prop
def PG (X : Cx) (target : Expr) (t : TG) : Prop :=
  ∀ (pins : List (Addr × Obj)) (s : Shared) (σ : St) (H : Hp) (v : V) (u : Value) (Q : St → Hp → Prop), Inv X pins σ H s → RelV v u → t v σ H Q →
    wpAny (model X.prog X.w) X.A (assign target X.env u) (fun _ s' => ∃ σ' H', Inv X pins σ' H' s' ∧ Q σ' H') X.xe s
/-- several targets, one after another -/
def PGs (X : Cx) (ts : List Expr) (t : TGs) : Prop :=
  ∀ (pins : List (Addr × Obj)) (s : Shared) (σ : St) (H : Hp) (vs : List V) (us : List Value) (Q : St → Hp → Prop), Inv X pins σ H s → Vals vs us → t vs σ H Q →
    wpAny (model X.prog X.w) X.A (assignInOrder ((assignEach ts X.env).map (·.2)) us) (fun _ s' => ∃ σ' H', Inv X pins σ' H' s' ∧ Q σ' H') X.xe s
/-- o[i] = v, by values -/
abbrev TSet := V → V → V → Hp → (Hp → Prop) → Prop
def PSet (X : Cx) (t : TSet) : Prop :=
  ∀ (pins : List (Addr × Obj)) (s : Shared) (σ : St) (H : Hp) (o i v : V) (ov iv u : Value) (Q : Hp → Prop), Inv X pins σ H s → RelV o ov → RelV i iv → RelV v u → t o i v H Q →
    wpAny (model X.prog X.w) X.A (setItem ov iv u) (fun _ s' => ∃ H', Inv X pins σ H' s' ∧ Q H') X.xe s
/-- a op= b, by values -/
abbrev TIp := V → V → Hp → VK → Prop
def PIp (X : Cx) (op : Operator) (t : TIp) : Prop :=
  ∀ (pins : List (Addr × Obj)) (s : Shared) (σ : St) (H : Hp) (x y : V) (v u : Value) (Q : VK), Inv X pins σ H s → RelV x v → RelV y u → t x y H Q →
    wpAny (model X.prog X.w) X.A (inplaceOp op v u) (EP X pins σ Q) X.xe s
section
variable {X : Cx} {pos : Pos}
def gName (i : Nat) : TG := fun v σ H Q => Q (σ.set i (some v)) H
theorem pg_name {i : Nat} {x : Str} (hN : X.N.Nodup) (hi : X.N[i]? = some x) (hx : Loc X.env.scope x) (hf : X.fn x = true ∨ X.env.scope.names.lookup x = some .local := by first | exact .inl rfl | exact .inr rfl | assumption) : PG X (.Name x pos) (gName i) := by
  intro pins s σ H v u Q I r h
  exact wpAny_assign_Name (store_ok I hN hi hx r (fun s' I' => ⟨_, H, I', h⟩) hf)
def gNil : TGs := fun vs σ H Q => vs = [] ∧ Q σ H
def gCons (t : TG) (u : TGs) : TGs := fun vs σ H Q => ∃ v r, vs = v :: r ∧ t v σ H fun σ' H' => u r σ' H' Q
theorem pgs_nil : PGs X [] gNil := by
  intro pins s σ H vs us Q I r h
  obtain ⟨e, h⟩ := h
  subst e
  cases r
  exact assignInOrder_nil ⟨σ, H, I, h⟩
theorem pgs_cons {e : Expr} {es : List Expr} {t : TG} {u : TGs} (h1 : PG X e t) (h2 : PGs X es u)
    (hs : (assignEach (e :: es) X.env).map (·.2) = assign e X.env :: (assignEach es X.env).map (·.2) := by rfl) : PGs X (e :: es) (gCons t u) := by
  intro pins s σ H vs us Q I r h
  obtain ⟨v, vr, e1, h⟩ := h
  subst e1
  cases r with
  | cons r rr =>
    rw [hs]
    refine assignInOrder_cons (thn (h1 pins s σ H _ _ _ I r h) fun _ s1 ⟨σ1, H1, I1, q1⟩ => ?_)
    exact h2 pins s1 σ1 H1 _ _ Q I1 rr q1
/-- (a, b, ..) = a tuple of that length -/
def gTup (K : PySem.W.Frag) (n : Nat) (t : TGs) : TG := fun v σ H Q => ∃ a xs, v = .ref a ∧ SqT K H a xs ∧ xs.length = n ∧ t xs σ H Q
theorem pg_tup {es : List Expr} {k : Nat} {t : TGs} {n : Nat} (hc : X.calm = true) (h : PGs X es t)
    (hn : (assignEach es X.env).length = n := by rfl) (hst : (assignEach es X.env).findIdx? (·.1) = none := by rfl) : PG X (.Tuple es k pos) (gTup X.K n t) := by
  intro pins s σ H v u Q I r hw
  obtain ⟨a, xs, e1, hq, hl, hw⟩ := hw
  subst e1
  cases r
  obtain ⟨its, rv, ht, hz⟩ := I.tuple hq
  refine assign_Tuple_tuple (I.ok.hd hc) ht (by simp [hn, ← hl, rv.length]) hst fun h' hx => ?_
  have I1 : Inv X pins σ H { s with heap := h' } := I.kept (t' := s.toks) fun b o e => hx b o (Nat.ne_of_lt (Heap.lt_size e)) e
  exact h pins _ σ H xs _ Q I1 (by simpa using rv) hw
/-- o[i] = .. -/
def gSub (to ti : TE) (t : TSet) : TG := fun v σ H Q => to σ H fun o H1 => ti σ H1 fun i H2 => t o i v H2 fun H3 => Q σ H3
theorem pg_sub {o i : Expr} {to ti : TE} {t : TSet} (ho : PE X o to) (hi : PE X i ti) (hs : PSet X t)
    (ha : ∀ v, assign (.Subscript o i pos) X.env v = (do
      let ov ← holding [v] (eval o X.env)
      let iv ← holding [v, ov] (eval i X.env)
      standAt pos
      holding [v, ov, iv] (setItem ov iv v)
      release [v, ov, iv] []) := by intro _; rfl) : PG X (.Subscript o i pos) (gSub to ti t) := by
  intro pins s σ H v u Q I r h
  rw [ha]
  refine wpAny_bind (wpAny_holding (thn (ho pins s σ H _ I h) fun ov s1 ⟨x, H1, I1, r1, q1⟩ => ?_))
  refine wpAny_bind (wpAny_holding (thn (hi pins s1 σ H1 _ I1 q1) fun iv s2 ⟨y, H2, I2, r2, q2⟩ => ?_))
  refine wpAny_bind (wpAny_standAt (wpAny_bind (wpAny_holding (thn (hs pins s2 σ H2 x y v ov iv u _ I2 r1 r2 r q2) fun _ s3 ⟨H3, I3, q3⟩ => ?_))))
  exact wpAny_release ⟨σ, H3, I3, q3⟩
/-- target = value -/
def tAsg (te : TE) (g : TG) : TS := fun D σ H => te σ H fun x H1 => g x σ H1 D.nx
theorem ps_asg {tg e : Expr} {te : TE} {g : TG} (he : PE X e te) (hg : PG X tg g) (hs : swapsWithSole [tg] e pos.line X.env = pure false := by rfl) (hw : swappedStores [tg] e X.env = pure none := by rfl)
    (h1 : (assignEach [tg] X.env).map (·.2) = [assign tg X.env] := by rfl) : PS X (.Assign [tg] e pos) (tAsg te g) := by
  intro pins s σ H D I h
  refine wpAny_Assign_stores (thn (he pins s σ H _ I h) fun v s1 ⟨x, H1, I1, r1, q1⟩ => ?_) hs hw
  rw [h1]
  exact thn (hg pins s1 σ H1 x v _ I1 r1 q1) fun _ s2 q => q
/-- name = value -/
theorem ps_set {i : Nat} {x : Str} {e : Expr} {te : TE} {pos' : Pos} (hN : X.N.Nodup) (hi : X.N[i]? = some x) (hx : Loc X.env.scope x) (he : PE X e te) (hs : swapsWith e (some (.Name x pos')) pos.line X.env = pure false := by rfl) (hf : X.fn x = true ∨ X.env.scope.names.lookup x = some .local := by first | exact .inl rfl | exact .inr rfl | assumption) :
    PS X (.Assign [.Name x pos'] e pos) (tAsg te (gName i)) := by
  intro pins s σ H D I h
  refine wpAny_Assign_Name (thn (he pins s σ H _ I h) fun v s1 ⟨y, H1, I1, r1, q1⟩ => ?_) hs
  exact store_ok I1 hN hi hx r1 (fun s2 I2 => ⟨_, H1, I2, q1⟩) hf
/-- a, b = x, y with plain local names: stored from the right; the pair itself is not tracked (the opening rows as in PyProof/Rows/TupAssign.lean:23) -/
def tPar (i j : Nat) (ta : TA) : TS := fun D σ H => ta σ H fun vs H1 => ∃ v w, vs = [v, w] ∧ D.nx ((σ.set i (some v)).set j (some w)) H1
theorem ps_par {i j : Nat} {x y : Str} {a b : Expr} {ta : TA} {px py pt : Pos} {kt k2 pt2} (hc : X.calm = true) (hN : X.N.Nodup) (hi : X.N[i]? = some x) (hj : X.N[j]? = some y) (hij : i ≠ j)
    (hx : X.env.scope.names.lookup x = some .local) (hy : X.env.scope.names.lookup y = some .local) (ha : PA X [a, b] ta)
    (hw : swappedStores [.Tuple [.Name x px, .Name y py] kt pt] (.Tuple [a, b] k2 pt2) X.env = pure (some [x, y]))
    (hs : swapsWithSole [.Tuple [.Name x px, .Name y py] kt pt] (.Tuple [a, b] k2 pt2) pos.line X.env = pure false := by rfl) :
    PS X (.Assign [.Tuple [.Name x px, .Name y py] kt pt] (.Tuple [a, b] k2 pt2) pos) (tPar i j ta) := by
  intro pins s σ H D I h
  rw [exec_Assign_arm]
  refine wpAny_bind (wpAny_standAt ?_)
  rw [hs]
  refine wpAny_bind (wpAny_pure ?_)
  rw [if_neg (by decide)]
  refine wpAny_bind (Tuple_ (thn (ha _ pins s σ H _ I h) fun us s1 ⟨vs, H1, I1, r1, q1⟩ => ?_))
  obtain ⟨v, w, e1, q1⟩ := q1
  subst e1
  obtain ⟨u1, u2, rfl, rv, rw'⟩ : ∃ u1 u2, us = [u1, u2] ∧ RelV v u1 ∧ RelV w u2 := by
    cases r1 with
    | cons p q =>
      cases q with
      | cons p' q' =>
        cases q'
        exact ⟨_, _, rfl, p, p'⟩
  refine wpAny_newObj_type ?_ (by show 2 ≤ sizeLine; decide)
  have I2 : Inv X pins σ H1 { s1 with heap := s1.heap.push { cls := .type "tuple", data := .seq [u1, u2].toArray } } := I1.kept (t' := s1.toks) fun b o e => Heap.get?_push_of_some _ e
  rw [hw]
  refine wpAny_bind (wpAny_pure ?_)
  show wpAny (model X.prog X.w) X.A (do rule "assign.swapped-stores"; let items ← unpackItems (.ref s1.heap.objs.size) 2 none; assignInOrder [fun v => bindName X.env y v, fun v => bindName X.env x v] items.reverse; pure Flow.next) _ _ _
  refine wpAny_bind (wpAny_rule (wpAny_bind (unpackItems_tuple (items := #[u1, u2]) (I.ok.hd hc) (IsTup.new s1.heap _) fun h' hx' => ?_)))
  have I3 := I2.kept (h' := h') (t' := s1.toks) fun b o e => hx' b o (Nat.ne_of_lt (Heap.lt_size e)) e
  show wpAny _ _ (assignInOrder [fun v => bindName X.env y v, fun v => bindName X.env x v] [u2, u1] >>= fun _ => pure Flow.next) _ _ _
  refine wpAny_bind (assignInOrder_cons (wpAny_bindName (store_ok I3 hN hj (.inl hy) rw' (fun s2 I4 => ?_) (.inr hy))))
  refine assignInOrder_cons (wpAny_bindName (store_ok I4 hN hi (.inl hx) rv (fun s3 I5 => assignInOrder_nil (wpAny_pure ?_)) (.inr hx)))
  rw [List.set_comm _ _ (Ne.symm hij)] at I5
  exact ⟨_, H1, I5, q1⟩
/-- name op= e -/
def tAug (i : Nat) (te : TE) (ti : TIp) : TS := fun D σ H => ∃ x, σ[i]? = some (some x) ∧ te σ H fun y H1 => ti x y H1 fun z H2 => D.nx (σ.set i (some z)) H2
theorem ps_aug {i : Nat} {x : Str} {e : Expr} {te : TE} {op : Operator} {ti : TIp} {pos' : Pos} (hN : X.N.Nodup) (hi : X.N[i]? = some x) (hx : Loc X.env.scope x) (he : PE X e te) (ho : PIp X op ti) (hf : X.fn x = true ∨ X.env.scope.names.lookup x = some .local := by first | exact .inl rfl | exact .inr rfl | assumption) :
    PS X (.AugAssign (.Name x pos') op e pos) (tAug i te ti) := by
  intro pins s σ H D I h
  obtain ⟨v, e1, h⟩ := h
  obtain ⟨m, hn, hl⟩ := I.loc
  have vis : Vis X.env.scope x := by rcases hx with k | k; exact .inl k; exact .inr (.inl k)
  obtain ⟨u, r, l⟩ := hl i x v hi e1 vis
  refine wpAny_AugAssign_Name ?_
  have go : wpAny (model X.prog X.w) X.A (eval e X.env) (fun w s₂ => wpAny (model X.prog X.w) X.A (inplaceOp op u w) (fun r s₃ => wpAny (model X.prog X.w) X.A (storeName X.env x r) (fun _ => SP X pins D .next) X.xe s₃) X.xe s₂) X.xe s := by
    refine thn (he pins s σ H _ I h) fun w s1 ⟨y, H1, I1, r1, q1⟩ => ?_
    refine thn (ho pins s1 σ H1 v y u w _ I1 r r1 q1) fun z s2 ⟨zv, H2, I2, r2, q2⟩ => ?_
    exact store_ok I2 hN hi hx r2 (fun s3 I3 => ⟨_, H2, I3, q2⟩) hf
  rcases l with ⟨hk, hm⟩ | ⟨hk, c, hc, hcell⟩
  · exact wpAny_loadName_local I.ok.kind hk hn hm go
  · rcases hk with hk | hk
    · exact wpAny_loadName_cell I.ok.kind hk hc hcell go
    · rcases hx with k | k
      · have : X.env.scope.names.lookup x = some .free := hk
        rw [k] at this; cases this
      · have : X.env.scope.names.lookup x = some .free := hk
        rw [k] at this; cases this
/-- o[i] op= e -/
def tAugS (to ti te : TE) (tget : V → V → Hp → VK → Prop) (tip : TIp) (tset : TSet) : TS := fun D σ H => to σ H fun o H1 => ti σ H1 fun i H2 => tget o i H2 fun x H3 => te σ H3 fun y H4 => tip x y H4 fun z H5 => tset o i z H5 fun H6 => D.nx σ H6
/-- o[i], by values -/
def PGet (X : Cx) (t : V → V → Hp → VK → Prop) : Prop :=
  ∀ (pins : List (Addr × Obj)) (s : Shared) (σ : St) (H : Hp) (o i : V) (ov iv : Value) (Q : VK), Inv X pins σ H s → RelV o ov → RelV i iv → t o i H Q →
    wpAny (model X.prog X.w) X.A (getItem ov iv) (EP X pins σ Q) X.xe s
theorem ps_augS {o i e : Expr} {to ti te : TE} {tget : V → V → Hp → VK → Prop} {tip : TIp} {tset : TSet} {op : Operator} {tpos : Pos} (ho : PE X o to) (hi : PE X i ti) (hg : PGet X tget) (he : PE X e te) (hp : PIp X op tip) (hs : PSet X tset)
    (ha : ∀ ov iv new, augStore i ov iv new = (do holding [new, ov, iv] (setItem ov iv new); release [new, ov, iv] []; pure .next) := by intros; rfl) : PS X (.AugAssign (.Subscript o i tpos) op e pos) (tAugS to ti te tget tip tset) := by
  intro pins s σ H D I h
  refine wpAny_AugAssign_SubscriptAny (thn (ho pins s σ H _ I h) fun ov s1 ⟨x1, H1, I1, r1, q1⟩ => ?_) ha
  refine thn (hi pins s1 σ H1 _ I1 q1) fun iv s2 ⟨x2, H2, I2, r2, q2⟩ => ?_
  refine thn (hg pins s2 σ H2 x1 x2 ov iv _ I2 r1 r2 q2) fun old s3 ⟨x3, H3, I3, r3, q3⟩ => ?_
  refine thn (he pins s3 σ H3 _ I3 q3) fun v s4 ⟨x4, H4, I4, r4, q4⟩ => ?_
  refine thn (hp pins s4 σ H4 x3 x4 old v _ I4 r3 r4 q4) fun new s5 ⟨x5, H5, I5, r5, q5⟩ => ?_
  exact thn (hs pins s5 σ H5 x1 x2 x5 ov iv new _ I5 r1 r2 r5 q5) fun _ s6 ⟨H6, I6, q6⟩ => ⟨σ, H6, I6, q6⟩
/-- ints -/
def ipI (f : Int → Int → Int) : TIp := fun x y H Q => ∃ i j, x = .int i ∧ y = .int j ∧ Q (.int (f i j)) H
theorem ip_add : PIp X .Add (ipI fun i j => i + j) := by
  intro pins s σ H x y v u Q I r1 r2 h
  obtain ⟨i, j, e1, e2, q⟩ := h
  subst e1; subst e2
  obtain ⟨t, rfl⟩ := r1
  obtain ⟨t', rfl⟩ := r2
  exact iadd_int ⟨.int _, H, I.tok _, ⟨_, rfl⟩, q⟩
theorem ip_sub : PIp X .Sub (ipI fun i j => i - j) := by
  intro pins s σ H x y v u Q I r1 r2 h
  obtain ⟨i, j, e1, e2, q⟩ := h
  subst e1; subst e2
  obtain ⟨t, rfl⟩ := r1
  obtain ⟨t', rfl⟩ := r2
  exact isub_int ⟨.int _, H, I.tok _, ⟨_, rfl⟩, q⟩
end

/-! ### while -/
section
variable {X : Cx} {pos : Pos}
/-- the invariant W with its measure -/
def tWhile (c : TT) (tb : TS) : TS := fun D σ H => ∃ W : Nat → St → Hp → Prop, (∃ m, W m σ H) ∧ ∀ m σ H, W m σ H →
  c σ H fun b H1 => if b = true then ∃ N : St → Hp → Prop, (∀ σ' H', N σ' H' → ∃ m', m' < m ∧ W m' σ' H') ∧ tb { D with nx := N, ct := N, bk := D.nx } σ H1 else D.nx σ H1
theorem ps_while {c : Expr} {body : List Stmt} {tc : TT} {tb : TS} (hp : PassesOwn (model X.prog X.w) X.A X.env X.xe) (hc : PT X c tc) (hb : PSs X body tb) : PS X (.While c body [] pos) (tWhile tc tb) := by
  intro pins s σ H D I h
  obtain ⟨W, ⟨m0, w0⟩, turn⟩ := h
  refine wpAny_While (codeAny_whileLoop (fun n s' => ∃ σ' H', Inv X pins σ' H' s' ∧ W n σ' H') ?_ m0 ⟨σ, H, I, w0⟩)
  rintro n s1 ⟨σ1, H1, I1, w1⟩
  refine wpAny_passesOwn hp (thn (hc pins s1 σ1 H1 _ I1 (turn n σ1 H1 w1)) fun b s2 ⟨H2, I2, q2⟩ => ?_)
  cases b with
  | true =>
    obtain ⟨N, hN, q2⟩ := q2
    rw [if_pos rfl]
    refine wpAny_passesOwn hp (thn (hb pins s2 σ1 H2 _ I2 q2) fun f s3 q3 => ?_)
    cases f with
    | next =>
      obtain ⟨σ3, H3, I3, n3⟩ := q3
      obtain ⟨m', hm, w3⟩ := hN σ3 H3 n3
      exact ⟨m', hm, σ3, H3, I3, w3⟩
    | cont =>
      obtain ⟨σ3, H3, I3, n3⟩ := q3
      obtain ⟨m', hm, w3⟩ := hN σ3 H3 n3
      exact ⟨m', hm, σ3, H3, I3, w3⟩
    | brk => exact q3
    | ret v => exact q3
  | false =>
    rw [if_neg Bool.false_ne_true]
    exact wpAny_execs_nil ⟨σ1, H2, I2, q2⟩
end

/-! ### what a loop or a comprehension walks -/
/-- at turn i: it yields x (the heap may grow), or it stops -/
structure It where
  go : Nat → Hp → Prop
  yld : Nat → Hp → V → Hp → Prop
  stop : Nat → Hp → Prop
/-- the iterator's own objects may turn: they are not the frame's, not pinned, younger than the entry (or a comprehension's own) -/
def FpOk (X : Cx) (pins : List (Addr × Obj)) (H : Hp) (b : Addr) : Prop :=
  H b = none ∧ b ≠ X.env.locals ∧ b ∉ X.fs ∧ (b ∈ X.ex ∨ X.s₀.heap.objs.size ≤ b) ∧ (∀ x c, X.env.cells.lookup x = some c → c ≠ b) ∧ ∀ p ∈ X.pn ++ pins, p.1 ≠ b
theorem Inv.fpOk {X : Cx} {pins : List (Addr × Obj)} {σ : St} {H H' : Hp} {s : Shared} {b : Addr} (I : Inv X pins σ H s) (hb : s.heap.objs.size ≤ b) (hn : H' b = none) : FpOk X pins H' b := by
  refine ⟨hn, Nat.ne_of_gt (Nat.lt_of_lt_of_le I.lt hb), I.nofs hb, .inr (Nat.le_trans I.sz hb), fun x c e z => ?_, fun p hp z => ?_⟩
  · obtain ⟨v, q⟩ := I.cell x c e
    exact absurd (Nat.lt_of_lt_of_le q.lt (by rw [z]; exact hb)) (Nat.lt_irrefl _)
  · exact absurd (Nat.lt_of_lt_of_le (Heap.lt_size (I.pin p hp).1) (by rw [z]; exact hb)) (Nat.lt_irrefl _)
structure Turn (P : Program) (w : World) (K : PySem.W.Frag) (tg : Expr) (J : It) (fp : List Addr) (it : Addr) (tn : Nat → Heap → Prop) : Prop where
  mem : it ∈ fp
  obj : ∀ i h, tn i h → ∀ b ∈ fp, ∃ o, h.get? b = some o ∧ ∀ v, o.data ≠ .cell v
  keep : ∀ i h h', tn i h → (∀ b ∈ fp, ∀ o, h.get? b = some o → h'.get? b = some o) → tn i h'
  item : ∀ (X : Cx), X.prog = P → X.w = w → X.K = K → X.calm = true → ∀ (i : Nat) (pins : List (Addr × Obj)) (s : Shared) (σ : St) (H : Hp) (E : Value → Shared → Prop), Inv X pins σ H s → (∀ b ∈ fp, FpOk X pins H b) → tn i s.heap → J.go i H →
    wpAny (model P w) X.A (pyNext (.ref it)) (fun r s1 => ∃ u, r = some u ∧
      wpAny (model P w) X.A (letOwnedTupleGo tg (.ref it) u) (fun _ s2 => ∃ x H', Inv X pins σ H' s2 ∧ RelV x u ∧ J.yld i H x H' ∧ tn (i + 1) s2.heap ∧ ∀ b ∈ fp, H' b = none) E s1) E s
  done : ∀ (X : Cx), X.prog = P → X.w = w → X.K = K → X.calm = true → ∀ (i : Nat) (pins : List (Addr × Obj)) (s : Shared) (σ : St) (H : Hp) (E : Value → Shared → Prop), Inv X pins σ H s → (∀ b ∈ fp, FpOk X pins H b) → tn i s.heap → J.stop i H →
    wpAny (model P w) X.A (pyNext (.ref it)) (fun r s1 => r = none ∧ Inv X pins σ H s1) E s
  self : ∀ (A : Around) (i : Nat) (s : Shared) (Q : Value → Shared → Prop) (E : Value → Shared → Prop), tn i s.heap → Q (.ref it) s → wpAny (model P w) A (pyIter (.ref it)) Q E s
abbrev TI := St → Hp → (It → Hp → Prop) → Prop
/-- an iterator has come -/
def PIE (X : Cx) (pins : List (Addr × Obj)) (σ : St) (tg : Expr) (R : It → Hp → Prop) (itv : Value) (s2 : Shared) : Prop :=
  ∃ (it : Addr) (fp : List Addr) (tn : Nat → Heap → Prop) (J : It) (H' : Hp), itv = .ref it ∧ Inv X pins σ H' s2 ∧ Turn X.prog X.w X.K tg J fp it tn ∧ tn 0 s2.heap ∧ (∀ b ∈ fp, FpOk X pins H' b) ∧ R J H'
def PI (X : Cx) (tg iter : Expr) (wi : TI) : Prop :=
  ∀ (pins : List (Addr × Obj)) (s : Shared) (σ : St) (H : Hp) (R : It → Hp → Prop), Inv X pins σ H s → wi σ H R →
    wpAny (model X.prog X.w) X.A (eval iter X.env) (fun v s1 => wpAny (model X.prog X.w) X.A (pyIter v) (PIE X pins σ tg R) X.xe s1) X.xe s

/-- the step ahead of the store is nothing for an iterator that keeps no tuple -/
theorem go_of {M : Model} {A : Around} {E : Value → Shared → Prop} {s : Shared} {tg : Expr} {it : Addr} {u : Value} {o : Obj} {n : String} {vs : Array Value} {Q : Unit → Shared → Prop} (ho : s.heap.get? it = some o) (hc : o.cls = .type n) (hd : o.data = .fields vs)
    (hn : ["enumerate", "zip", "dict_itemiterator", "dict_reverseitemiterator", "odict_iterator", "itertools.zip_longest", "itertools.pairwise"].contains n = false) (hQ : Q () s) : wpAny M A (letOwnedTupleGo tg (.ref it) u) Q E s := by
  unfold letOwnedTupleGo
  cases tg <;> first
    | exact wpAny_pure hQ
    | (cases u <;> first
        | exact wpAny_pure hQ
        | (refine wpAny_bind (wpAny_load ho ?_)
           rw [hc, hd]
           show wpAny M A (if (["enumerate", "zip", "dict_itemiterator", "dict_reverseitemiterator", "odict_iterator", "itertools.zip_longest", "itertools.pairwise"].contains n && vs[0]? == some (rawInt _)) = true then _ else _) Q E s
           rw [if_neg (by intro h; rw [hn, Bool.false_and] at h; cases h)]
           exact wpAny_pure hQ))

/-- the list at a, as it stands at each turn (a loop may append to it) -/
def Itl (K : PySem.W.Frag) (a : Addr) : It :=
  ⟨fun i H => ∃ xs x, SqL K H a xs ∧ xs[i]? = some x, fun i H x H' => H' = H ∧ ∀ xs, SqL K H a xs → xs[i]? = some x, fun i H => ∃ xs, SqL K H a xs ∧ xs.length ≤ i⟩
def Itt (K : PySem.W.Frag) (a : Addr) : It :=
  ⟨fun i H => ∃ xs x, SqT K H a xs ∧ xs[i]? = some x, fun i H x H' => H' = H ∧ ∀ xs, SqT K H a xs → xs[i]? = some x, fun i H => ∃ xs, SqT K H a xs ∧ xs.length ≤ i⟩
/-- lo, lo + 1, .. (n of them) -/
def Itr (lo : Int) (n : Nat) : It := ⟨fun i _ => i < n, fun i H x H' => H' = H ∧ x = .int (lo + i), fun i _ => n ≤ i⟩
theorem turn_list {P : Program} {w : World} {K : PySem.W.Frag} {tg : Expr} (a it : Addr) : Turn P w K tg (Itl K a) [it] it (fun i h => h.IsListIter it a i) where
  mem := by simp
  obj := fun i h st b hb => by
    have e : b = it := by simpa using hb
    subst e
    obtain ⟨o, e, c, d⟩ := st
    exact ⟨o, e, fun v z => by rw [d] at z; cases z⟩
  keep := fun i h h' st k => st.at fun o e => k it (by simp) o e
  item := by
    intro X hP hw hK hc i pins s σ H E I hf st hg
    subst hP hw hK
    obtain ⟨xs, x, hq, hx⟩ := hg
    obtain ⟨its, rv, p, hz⟩ := I.list hq
    obtain ⟨u, hu, ru⟩ := rv.get hx
    obtain ⟨f0, f1, f2, f3, f4, f5⟩ := hf it (by simp)
    refine wpAny_pyNext_list_item st p.isList (x := u) (by simpa using hu) fun h' st' sb => ?_
    have I1 : Inv X pins σ H { s with heap := h' } := I.turned (t' := s.toks) (fun b o hb e => (sb.2 b hb).trans e) f0 f1 f3 f4 f5
    obtain ⟨o, e, c, d⟩ := id st'
    exact ⟨u, rfl, go_of (s := { s with heap := h' }) e c d (by decide) ⟨x, H, I1, ru, ⟨rfl, fun ys hy => by rw [I.list_inj hy hq]; exact hx⟩, st', fun b hb => (hf b hb).1⟩⟩
  done := by
    intro X hP hw hK hc i pins s σ H E I hf st hg
    subst hP hw hK
    obtain ⟨xs, hq, hx⟩ := hg
    obtain ⟨its, rv, p, hz⟩ := I.list hq
    obtain ⟨f0, f1, f2, f3, f4, f5⟩ := hf it (by simp)
    have hl := rv.length
    exact wpAny_pyNext_list_end (I.ok.hd hc) st p.isList (by simp; omega) fun h' eb => ⟨rfl, I.turned (t' := s.toks) (fun b o hb e => eb b o hb e) f0 f1 f3 f4 f5⟩
  self := fun _ _ _ _ _ st h => wpAny_pyIter_listiter st h
theorem turn_tuple {P : Program} {w : World} {K : PySem.W.Frag} {tg : Expr} (a it : Addr) : Turn P w K tg (Itt K a) [it] it (fun i h => h.IsTupleIter it a i) where
  mem := by simp
  obj := fun i h st b hb => by
    have e : b = it := by simpa using hb
    subst e
    obtain ⟨o, e, c, d⟩ := st
    exact ⟨o, e, fun v z => by rw [d] at z; cases z⟩
  keep := fun i h h' st k => st.at fun o e => k it (by simp) o e
  item := by
    intro X hP hw hK hc i pins s σ H E I hf st hg
    subst hP hw hK
    obtain ⟨xs, x, hq, hx⟩ := hg
    obtain ⟨its, rv, p, hz⟩ := I.tuple hq
    obtain ⟨u, hu, ru⟩ := rv.get hx
    obtain ⟨f0, f1, f2, f3, f4, f5⟩ := hf it (by simp)
    refine wpAny_pyNext_tuple_item st (show s.heap.IsTuple a its.toArray from p) (x := u) (by simpa using hu) fun h' st' sb => ?_
    have I1 : Inv X pins σ H { s with heap := h' } := I.turned (t' := s.toks) (fun b o hb e => (sb.2 b hb).trans e) f0 f1 f3 f4 f5
    obtain ⟨o, e, c, d⟩ := id st'
    exact ⟨u, rfl, go_of (s := { s with heap := h' }) e c d (by decide) ⟨x, H, I1, ru, ⟨rfl, fun ys hy => by rw [I.tuple_inj hy hq]; exact hx⟩, st', fun b hb => (hf b hb).1⟩⟩
  done := by
    intro X hP hw hK hc i pins s σ H E I hf st hg
    subst hP hw hK
    obtain ⟨xs, hq, hx⟩ := hg
    obtain ⟨its, rv, p, hz⟩ := I.tuple hq
    obtain ⟨f0, f1, f2, f3, f4, f5⟩ := hf it (by simp)
    have hl := rv.length
    exact wpAny_pyNext_tuple_end (I.ok.hd hc) st (show s.heap.IsTuple a its.toArray from p) (by simp; omega) fun h' eb => ⟨rfl, I.turned (t' := s.toks) (fun b o hb e => eb b o hb e) f0 f1 f3 f4 f5⟩
  self := fun _ _ _ _ _ st h => wpAny_pyIter_tupleiter st h
theorem turn_range {P : Program} {w : World} {K : PySem.W.Frag} {tg : Expr} (it : Addr) (lo : Int) (n : Nat) : Turn P w K tg (Itr lo n) [it] it (fun i h => IsRangeIter h it (lo + (i : Nat) * 1) ((n : Int) - (i : Nat)) 1) where
  mem := by simp
  obj := fun i h st b hb => by
    have e : b = it := by simpa using hb
    subst e
    exact ⟨_, st, fun v z => by
      have z' : Data.fields _ = Data.cell v := z
      cases z'⟩
  keep := fun i h h' st k => k it (by simp) _ st
  item := by
    intro X hP hw hK hc i pins s σ H E I hf st hg
    subst hP hw hK
    obtain ⟨f0, f1, f2, f3, f4, f5⟩ := hf it (by simp)
    have W := Walks.range (prog := X.prog) (w := X.w) (I.ok.hd hc) it lo 1 n
    refine W.item i s _ _ hg st fun v h' tk hv st' kk => ?_
    obtain ⟨t, rfl⟩ := hv
    have I1 : Inv X pins σ H { s with heap := h', toks := tk } := I.turned (fun b o hb e => kk b o (by simpa using hb) e) f0 f1 f3 f4 f5
    refine ⟨_, rfl, go_of (s := { s with heap := h', toks := tk }) (n := "range_iterator") st' rfl rfl (by decide) ⟨.int (lo + i), H, I1, ⟨t, ?_⟩, ⟨rfl, rfl⟩, st', fun b hb => (hf b hb).1⟩⟩
    rw [Int.mul_one]
  done := by
    intro X hP hw hK hc i pins s σ H E I hf st hg
    subst hP hw hK
    obtain ⟨f0, f1, f2, f3, f4, f5⟩ := hf it (by simp)
    exact wpAny_pyNext_range_end (I.ok.hd hc) st (by have : n ≤ i := hg; omega) fun h' eb => ⟨rfl, I.turned (t' := s.toks) (fun b o hb e => eb b o hb e) f0 f1 f3 f4 f5⟩
  self := fun _ _ _ _ _ st h => wpAny_pyIter_rangeiter st h
end L2

namespace L2
open PySem PySem.Spec PyProof.Rows
section
variable {X : Cx} {tg : Expr}
def iList (K : PySem.W.Frag) (tl : TE) : TI := fun σ H R => tl σ H fun x H1 => ∃ a, x = .ref a ∧ (∃ xs, SqL K H1 a xs) ∧ R (Itl K a) H1
def iTup (K : PySem.W.Frag) (tl : TE) : TI := fun σ H R => tl σ H fun x H1 => ∃ a, x = .ref a ∧ (∃ xs, SqT K H1 a xs) ∧ R (Itt K a) H1
theorem pi_list {l : Expr} {tl : TE} (hl : PE X l tl) : PI X tg l (iList X.K tl) := by
  intro pins s σ H R I h
  refine thn (hl pins s σ H _ I h) fun v s1 ⟨x, H1, I1, r1, q1⟩ => ?_
  obtain ⟨a, e, ⟨xs, hq⟩, q⟩ := q1
  subst e
  cases r1
  obtain ⟨its, rv, p, hz⟩ := I1.list hq
  refine wpAny_pyIter_list p.isList ?_
  refine ⟨s1.heap.objs.size, [s1.heap.objs.size], _, _, H1, rfl, I1.kept (t' := s1.toks) fun b o e => Heap.get?_push_of_some _ e, turn_list a _, ⟨_, Heap.get?_push_size _ rfl, rfl, rfl⟩, fun b hb => ?_, q⟩
  have e : b = s1.heap.objs.size := by simpa using hb
  subst e
  exact I1.fpOk (Nat.le_refl _) (I1.hok.fresh (Nat.le_refl _))
theorem pi_tup {l : Expr} {tl : TE} (hl : PE X l tl) : PI X tg l (iTup X.K tl) := by
  intro pins s σ H R I h
  refine thn (hl pins s σ H _ I h) fun v s1 ⟨x, H1, I1, r1, q1⟩ => ?_
  obtain ⟨a, e, ⟨xs, hq⟩, q⟩ := q1
  subst e
  cases r1
  obtain ⟨its, rv, p, hz⟩ := I1.tuple hq
  refine wpAny_pyIter_tuple (show s1.heap.IsTuple a its.toArray from p) ?_
  refine ⟨s1.heap.objs.size, [s1.heap.objs.size], _, _, H1, rfl, I1.kept (t' := s1.toks) fun b o e => Heap.get?_push_of_some _ e, turn_tuple a _, ⟨_, Heap.get?_push_size _ rfl, rfl, rfl⟩, fun b hb => ?_, q⟩
  have e : b = s1.heap.objs.size := by simpa using hb
  subst e
  exact I1.fpOk (Nat.le_refl _) (I1.hok.fresh (Nat.le_refl _))
/-- a range object just made, walked -/
theorem range_it {pins : List (Addr × Obj)} {σ : St} {H : Hp} {s : Shared} {R : It → Hp → Prop} {E : Value → Shared → Prop} {lo hi : Int} {t u v : Tok} {tk : Nat} (I : Inv X pins σ H s) (h1 : -(2 ^ 62) ≤ lo) (h2 : lo < 2 ^ 62) (h3 : -(2 ^ 62) ≤ hi) (h4 : hi < 2 ^ 62)
    (q : R (Itr lo (hi - lo).toNat) H) : wpAny (model X.prog X.w) X.A (pyIter (.ref s.heap.objs.size)) (PIE X pins σ tg R) E { s with heap := s.heap.push { cls := .type "range", data := .fields #[.int lo t, .int hi u, .int 1 v] }, toks := tk } := by
  refine wpAny_pyIter_range (IsRange.new ..) (small_one h1 h2 h3 h4) ?_
  have I1 : Inv X pins σ H { s with heap := s.heap.push { cls := .type "range", data := .fields #[.int lo t, .int hi u, .int 1 v] }, toks := tk } := I.kept fun b o e => Heap.get?_push_of_some _ e
  refine ⟨(s.heap.push { cls := .type "range", data := .fields #[.int lo t, .int hi u, .int 1 v] }).objs.size, [(s.heap.push { cls := .type "range", data := .fields #[.int lo t, .int hi u, .int 1 v] }).objs.size], _, _, H, rfl,
    I1.kept (t' := tk) fun b o e => Heap.get?_push_of_some _ e, turn_range _ lo (hi - lo).toNat, ?_, fun b hb => ?_, q⟩
  · have e1 : lo + ((0 : Nat) : Int) * 1 = lo := by simp
    have e2 : (((hi - lo).toNat : Nat) : Int) - ((0 : Nat) : Int) = Builtin.Range.rangeSize lo hi 1 := by rw [rangeSize_one]; split <;> omega
    show IsRangeIter _ _ (lo + ((0 : Nat) : Int) * 1) ((((hi - lo).toNat : Nat) : Int) - ((0 : Nat) : Int)) 1
    rw [e1, e2]
    exact Heap.get?_push_size _ rfl
  · have e : b = (s.heap.push { cls := .type "range", data := .fields #[.int lo t, .int hi u, .int 1 v] }).objs.size := by simpa using hb
    subst e
    exact I1.fpOk (Nat.le_refl _) (I1.hok.fresh (Nat.le_refl _))
def iRng1 (ta : TA) : TI := fun σ H R => ta σ H fun vs H1 => ∃ j : Int, vs = [.int j] ∧ -(2 ^ 62) ≤ j ∧ j < 2 ^ 62 ∧ R (Itr 0 j.toNat) H1
def iRng2 (ta : TA) : TI := fun σ H R => ta σ H fun vs H1 => ∃ i j : Int, vs = [.int i, .int j] ∧ (-(2 ^ 62) ≤ i ∧ i < 2 ^ 62 ∧ -(2 ^ 62) ≤ j ∧ j < 2 ^ 62) ∧ R (Itr i (j - i).toNat) H1
theorem pi_range1 {a : Expr} {ta : TA} {p pos : Pos} (hg : Gl X "range") (hm : X.mg "range" = none) (ha : PA X [a] ta) (hs : starEach [a] X.env = [(false, eval a X.env)] := by rfl) : PI X tg (.Call (.Name "range" p) [a] [] pos) (iRng1 ta) := by
  intro pins s σ H R I h
  refine Call_ (ld_blt I hg hm boot_range (PyProof.Rows.callWith_type1 (thn (ha pos pins s σ H _ I h) fun us s1 ⟨vs, H1, I1, r1, q1⟩ => ?_) hs rfl))
  obtain ⟨j, e, q1, q2, q⟩ := q1
  subst e
  cases r1 with
  | cons r rr =>
    cases rr
    obtain ⟨t, rfl⟩ := r
    exact call_range_1 (range_it I1 (by omega) (by omega) q1 q2 (by simpa using q))
theorem pi_range2 {a b : Expr} {ta : TA} {p pos : Pos} (hg : Gl X "range") (hm : X.mg "range" = none) (ha : PA X [a, b] ta) (hs : starEach [a, b] X.env = [(false, eval a X.env), (false, eval b X.env)] := by rfl) (hs2 : starEach [b] X.env = [(false, eval b X.env)] := by rfl) :
    PI X tg (.Call (.Name "range" p) [a, b] [] pos) (iRng2 ta) := by
  intro pins s σ H R I h
  refine Call_ (ld_blt I hg hm boot_range (PyProof.Rows.callWith_type1 (thn (ha pos pins s σ H _ I h) fun us s1 ⟨vs, H1, I1, r1, q1⟩ => ?_) (by rw [hs, hs2]) (by rw [hs2]; rfl)))
  obtain ⟨i, j, e, ⟨q1, q2, q3, q4⟩, q⟩ := q1
  subst e
  cases r1 with
  | cons r rr =>
    cases rr with
    | cons r' rr =>
      cases rr
      obtain ⟨t, rfl⟩ := r
      obtain ⟨t', rfl⟩ := r'
      exact call_range_2 (range_it I1 q1 q2 q3 q4 q)

/-! ### for -/
/-- W: the invariant by the turn and a measure; N: what the body is to reach -/
def tFor (wi : TI) (g : TG) (tb : TS) : TS := fun D σ H => wi σ H fun J H1 => ∃ W : Nat → Nat → St → Hp → Prop, (∃ m, W 0 m σ H1) ∧ ∀ i m σ H, W i m σ H →
  (J.stop i H ∧ D.nx σ H) ∨ (J.go i H ∧ ∃ N : St → Hp → Prop, (∀ σ' H', N σ' H' → ∃ m', m' < m ∧ W (i + 1) m' σ' H') ∧ ∀ x H', J.yld i H x H' → g x σ H' fun σ2 H2 => tb { D with nx := N, ct := N, bk := D.nx } σ2 H2)
/-- the records at fp as they stand -/
def pinsAt (fp : List Addr) (h : Heap) : List (Addr × Obj) := fp.filterMap fun b => (h.get? b).map fun o => (b, o)
theorem mem_pinsAt {fp : List Addr} {h : Heap} {b : Addr} {o : Obj} (hb : b ∈ fp) (e : h.get? b = some o) : (b, o) ∈ pinsAt fp h := List.mem_filterMap.mpr ⟨b, hb, by rw [e]; rfl⟩
theorem of_pinsAt {fp : List Addr} {h : Heap} {p : Addr × Obj} (hp : p ∈ pinsAt fp h) : p.1 ∈ fp ∧ h.get? p.1 = some p.2 := by
  obtain ⟨b, hb, e⟩ := List.mem_filterMap.mp hp
  cases q : h.get? b with
  | none => rw [q] at e; cases e
  | some o =>
    rw [q] at e
    have e' : (b, o) = p := Option.some.inj e
    subst e'
    exact ⟨hb, q⟩
theorem Inv.pinned {pins : List (Addr × Obj)} {σ : St} {H : Hp} {s : Shared} {fp : List Addr} (I : Inv X pins σ H s) (hf : ∀ b ∈ fp, FpOk X pins H b) (ho : ∀ b ∈ fp, ∃ o, s.heap.get? b = some o ∧ ∀ v, o.data ≠ .cell v) : Inv X (pins ++ pinsAt fp s.heap) σ H s :=
  I.pins_of fun p hp => (List.mem_append.mp hp).elim (fun z => I.pin p (List.mem_append_right _ z)) fun z => by
    obtain ⟨hb, e⟩ := of_pinsAt z
    obtain ⟨f0, f1, f2, _⟩ := hf p.1 hb
    obtain ⟨o, e', d⟩ := ho p.1 hb
    rw [e] at e'; cases e'
    exact ⟨e, f0, f1, f2, d⟩
theorem Inv.unpinned {pins pl : List (Addr × Obj)} {σ : St} {H : Hp} {s : Shared} (I : Inv X (pins ++ pl) σ H s) : Inv X pins σ H s := I.pins_of fun p hp => I.pin p (List.mem_append_right _ (List.mem_append_left _ hp))
theorem ps_for {iter : Expr} {body : List Stmt} {wi : TI} {g : TG} {tb : TS} {pos : Pos} (hp : PassesOwn (model X.prog X.w) X.A X.env X.xe) (hc : X.calm = true) (hi : PI X tg iter wi) (hg : PG X tg g) (hb : PSs X body tb)
    (hs : ∀ x, foldedSetIterable iter X.env x = pure x := by intro _; rfl) : PS X (.For tg iter body [] pos) (tFor wi g tb) := by
  intro pins s σ H D I h
  refine wpAny_For (thn (hi pins s σ H _ I h) fun v s1 h1 => thn h1 fun itv s2 h2 => ?_) hs
  obtain ⟨it, fp, tn, J, H2, e, I2, T, st2, f2, W, ⟨m0, w0⟩, turn⟩ := h2
  subst e
  -- what stays true of the iterator's objects through the loop
  have stat : ∀ {H' : Hp}, (∀ b ∈ fp, H' b = none) → ∀ b ∈ fp, FpOk X pins H' b := fun hn b hb => ⟨hn b hb, (f2 b hb).2⟩
  refine codeAny_forLoop_any (fun n s' => ∃ i σ' H', Inv X pins σ' H' s' ∧ tn i s'.heap ∧ (∀ b ∈ fp, H' b = none) ∧ W i n σ' H') ?_ m0 ⟨0, σ, H2, I2, st2, fun b hb => (f2 b hb).1, w0⟩
  rintro n s3 ⟨i, σ3, H3, I3, st3, fr3, w3⟩
  rcases turn i n σ3 H3 w3 with ⟨stop, qn⟩ | ⟨go, N, hN, step⟩
  · refine wpAny_passesOwn hp (thn (T.done X rfl rfl rfl hc i pins s3 σ3 H3 X.xe I3 (stat fr3) st3 stop) fun r s4 ⟨hr, I4⟩ => ?_)
    subst hr
    exact wpAny_execs_nil ⟨σ3, H3, I4, qn⟩
  · refine wpAny_passesOwn hp (thn (T.item X rfl rfl rfl hc i pins s3 σ3 H3 X.xe I3 (stat fr3) st3 go) fun r s4 ⟨u, hr, h4⟩ => ?_)
    subst hr
    refine wpAny_passesOwn hp (thn h4 fun _ s5 ⟨x, H5, I5, r5, y5, st5, fr5⟩ => ?_)
    have I5' := I5.pinned (stat fr5) (T.obj _ _ st5)
    refine wpAny_passesOwn hp (thn (hg _ s5 σ3 H5 x u _ I5' r5 (step x H5 y5)) fun _ s6 ⟨σ6, H6, I6, q6⟩ => ?_)
    refine wpAny_passesOwn hp (thn (hb _ s6 σ6 H6 _ I6 q6) fun f s7 q7 => ?_)
    have again : ∀ {σ7 : St} {H7 : Hp}, Inv X (pins ++ pinsAt fp s5.heap) σ7 H7 s7 → N σ7 H7 → ∃ m, m < n ∧ ∃ i σ' H', Inv X pins σ' H' s7 ∧ tn i s7.heap ∧ (∀ b ∈ fp, H' b = none) ∧ W i m σ' H' := fun {σ7 H7} I7 n7 => by
      obtain ⟨m', hm, w7⟩ := hN σ7 H7 n7
      refine ⟨m', hm, i + 1, σ7, H7, I7.unpinned, T.keep _ _ _ st5 fun b hb o e => (I7.pin (b, o) (List.mem_append_right _ (List.mem_append_right _ (mem_pinsAt hb e)))).1, fun b hb => ?_, w7⟩
      obtain ⟨o, e, d⟩ := T.obj _ _ st5 b hb
      exact (I7.pin (b, o) (List.mem_append_right _ (List.mem_append_right _ (mem_pinsAt hb e)))).2.1
    cases f with
    | next => obtain ⟨σ7, H7, I7, n7⟩ := q7; exact again I7 n7
    | cont => obtain ⟨σ7, H7, I7, n7⟩ := q7; exact again I7 n7
    | brk => obtain ⟨σ7, H7, I7, q7⟩ := q7; exact ⟨σ7, H7, I7.unpinned, q7⟩
    | ret v => obtain ⟨x7, σ7, H7, I7, r7, q7⟩ := q7; exact ⟨x7, σ7, H7, I7.unpinned, r7, q7⟩
end

/-! ### the forms one uses -/
/-- over a list that the body leaves as it is -/
theorem for_list {K : PySem.W.Frag} {a : Addr} {xs : List V} {g : TG} {tb : TS} {D : Ends} {σ : St} {H : Hp} (Pv : Nat → St → Hp → Prop) (h0 : Pv 0 σ H) (hl : ∀ i σ H, i ≤ xs.length → Pv i σ H → SqL K H a xs)
    (hs : ∀ i x σ H, xs[i]? = some x → Pv i σ H → g x σ H fun σ2 H2 => tb { D with nx := Pv (i + 1), ct := Pv (i + 1), bk := D.nx } σ2 H2) (hd : ∀ σ H, Pv xs.length σ H → D.nx σ H) :
    ∃ W : Nat → Nat → St → Hp → Prop, (∃ m, W 0 m σ H) ∧ ∀ i m σ H, W i m σ H →
      ((Itl K a).stop i H ∧ D.nx σ H) ∨ ((Itl K a).go i H ∧ ∃ N : St → Hp → Prop, (∀ σ' H', N σ' H' → ∃ m', m' < m ∧ W (i + 1) m' σ' H') ∧ ∀ x H', (Itl K a).yld i H x H' → g x σ H' fun σ2 H2 => tb { D with nx := N, ct := N, bk := D.nx } σ2 H2) := by
  refine ⟨fun i m σ H => m = xs.length - i ∧ i ≤ xs.length ∧ Pv i σ H, ⟨xs.length, by simp, Nat.zero_le _, h0⟩, ?_⟩
  rintro i m σ H ⟨rfl, hi, p⟩
  have q := hl i σ H hi p
  by_cases hlt : i < xs.length
  · refine .inr ⟨⟨xs, xs[i], q, by simp [hlt]⟩, Pv (i + 1), fun σ' H' p' => ⟨xs.length - (i + 1), by omega, rfl, hlt, p'⟩, fun x H' y => ?_⟩
    obtain ⟨e, y⟩ := y
    subst e
    exact hs i x σ _ (y xs q) p
  · have e : i = xs.length := by omega
    subst e
    exact .inl ⟨⟨xs, q, Nat.le_refl _⟩, hd σ H p⟩
theorem for_tup {K : PySem.W.Frag} {a : Addr} {xs : List V} {g : TG} {tb : TS} {D : Ends} {σ : St} {H : Hp} (Pv : Nat → St → Hp → Prop) (h0 : Pv 0 σ H) (hl : ∀ i σ H, i ≤ xs.length → Pv i σ H → SqT K H a xs)
    (hs : ∀ i x σ H, xs[i]? = some x → Pv i σ H → g x σ H fun σ2 H2 => tb { D with nx := Pv (i + 1), ct := Pv (i + 1), bk := D.nx } σ2 H2) (hd : ∀ σ H, Pv xs.length σ H → D.nx σ H) :
    ∃ W : Nat → Nat → St → Hp → Prop, (∃ m, W 0 m σ H) ∧ ∀ i m σ H, W i m σ H →
      ((Itt K a).stop i H ∧ D.nx σ H) ∨ ((Itt K a).go i H ∧ ∃ N : St → Hp → Prop, (∀ σ' H', N σ' H' → ∃ m', m' < m ∧ W (i + 1) m' σ' H') ∧ ∀ x H', (Itt K a).yld i H x H' → g x σ H' fun σ2 H2 => tb { D with nx := N, ct := N, bk := D.nx } σ2 H2) := by
  refine ⟨fun i m σ H => m = xs.length - i ∧ i ≤ xs.length ∧ Pv i σ H, ⟨xs.length, by simp, Nat.zero_le _, h0⟩, ?_⟩
  rintro i m σ H ⟨rfl, hi, p⟩
  have q := hl i σ H hi p
  by_cases hlt : i < xs.length
  · refine .inr ⟨⟨xs, xs[i], q, by simp [hlt]⟩, Pv (i + 1), fun σ' H' p' => ⟨xs.length - (i + 1), by omega, rfl, hlt, p'⟩, fun x H' y => ?_⟩
    obtain ⟨e, y⟩ := y
    subst e
    exact hs i x σ _ (y xs q) p
  · have e : i = xs.length := by omega
    subst e
    exact .inl ⟨⟨xs, q, Nat.le_refl _⟩, hd σ H p⟩
theorem for_range {lo : Int} {n : Nat} {g : TG} {tb : TS} {D : Ends} {σ : St} {H : Hp} (Pv : Nat → St → Hp → Prop) (h0 : Pv 0 σ H)
    (hs : ∀ i σ H, i < n → Pv i σ H → g (.int (lo + i)) σ H fun σ2 H2 => tb { D with nx := Pv (i + 1), ct := Pv (i + 1), bk := D.nx } σ2 H2) (hd : ∀ σ H, Pv n σ H → D.nx σ H) :
    ∃ W : Nat → Nat → St → Hp → Prop, (∃ m, W 0 m σ H) ∧ ∀ i m σ H, W i m σ H →
      ((Itr lo n).stop i H ∧ D.nx σ H) ∨ ((Itr lo n).go i H ∧ ∃ N : St → Hp → Prop, (∀ σ' H', N σ' H' → ∃ m', m' < m ∧ W (i + 1) m' σ' H') ∧ ∀ x H', (Itr lo n).yld i H x H' → g x σ H' fun σ2 H2 => tb { D with nx := N, ct := N, bk := D.nx } σ2 H2) := by
  refine ⟨fun i m σ H => m = n - i ∧ i ≤ n ∧ Pv i σ H, ⟨n, by simp, Nat.zero_le _, h0⟩, ?_⟩
  rintro i m σ H ⟨rfl, hi, p⟩
  by_cases hlt : i < n
  · refine .inr ⟨hlt, Pv (i + 1), fun σ' H' p' => ⟨n - (i + 1), by omega, rfl, hlt, p'⟩, fun x H' y => ?_⟩
    obtain ⟨e, y⟩ := y
    subst e y
    exact hs i σ _ hlt p
  · have e : i = n := by omega
    subst e
    exact .inl ⟨Nat.le_refl _, hd σ H p⟩
/-- while, by a word and a measure of the state -/
theorem while_by {c : TT} {tb : TS} {D : Ends} {σ : St} {H : Hp} (Pv : St → Hp → Prop) (μ : St → Hp → Nat) (h0 : Pv σ H)
    (hs : ∀ σ H, Pv σ H → c σ H fun b H1 => if b = true then tb { D with nx := fun σ' H' => Pv σ' H' ∧ μ σ' H' < μ σ H, ct := fun σ' H' => Pv σ' H' ∧ μ σ' H' < μ σ H, bk := D.nx } σ H1 else D.nx σ H1)
    (mono : ∀ σ H Q Q', (∀ b H1, Q b H1 → Q' b H1) → c σ H Q → c σ H Q') : tWhile c tb D σ H := by
  refine ⟨fun m σ H => m = μ σ H ∧ Pv σ H, ⟨_, rfl, h0⟩, ?_⟩
  rintro m σ H ⟨rfl, p⟩
  refine mono σ H _ _ (fun b H1 q => ?_) (hs σ H p)
  cases b with
  | true => exact ⟨_, fun σ' H' ⟨p', l⟩ => ⟨_, l, rfl, p'⟩, q⟩
  | false => exact q
end L2

namespace L2
open PySem PySem.Spec PyProof.Rows

abbrev R2 := V → V → Hp → VK → Prop
/-- a two-place operation on values: f is binaryOp op, inplaceOp op or compareOp op -/
def OpR (X : Cx) (f : Value → Value → Sem Value) (r : R2) : Prop :=
  ∀ (pins : List (Addr × Obj)) (s : Shared) (σ : St) (H : Hp) (x y : V) (v u : Value) (Q : VK), Inv X pins σ H s → RelV x v → RelV y u → r x y H Q →
    wpAny (model X.prog X.w) X.A (f v u) (EP X pins σ Q) X.xe s
/-- a one-place operation -/
def UnR (X : Cx) (f : Value → Sem Value) (r : V → Hp → VK → Prop) : Prop :=
  ∀ (pins : List (Addr × Obj)) (s : Shared) (σ : St) (H : Hp) (x : V) (v : Value) (Q : VK), Inv X pins σ H s → RelV x v → r x H Q →
    wpAny (model X.prog X.w) X.A (f v) (EP X pins σ Q) X.xe s
/-- a call of a value that is known (a builtin, a type) with values -/
def CallR (X : Cx) (f : Value) (r : List V → Hp → VK → Prop) : Prop :=
  ∀ (pins : List (Addr × Obj)) (s : Shared) (σ : St) (H : Hp) (xs : List V) (us : List Value) (Q : VK), Inv X pins σ H s → Vals xs us → r xs H Q →
    wpAny (model X.prog X.w) X.A (call f us) (EP X pins σ Q) X.xe s
/-- a value's truth -/
def TruR (X : Cx) (r : V → Hp → (Bool → Hp → Prop) → Prop) : Prop :=
  ∀ (pins : List (Addr × Obj)) (s : Shared) (σ : St) (H : Hp) (x : V) (v : Value) (Q : Bool → Hp → Prop), Inv X pins σ H s → RelV x v → r x H Q →
    wpAny (model X.prog X.w) X.A (truthy v) (TP X pins σ Q) X.xe s

def tOp (r : R2) (ta tb : TE) : TE := fun σ H Q => ta σ H fun x H1 => tb σ H1 fun y H2 => r x y H2 Q
def tUn (r : V → Hp → VK → Prop) (ta : TE) : TE := fun σ H Q => ta σ H fun x H1 => r x H1 Q
/-- ints in, under C, and a value out -/
def rI (C : Int → Int → Prop) (g : Int → Int → V) : R2 := fun x y H Q => ∃ i j, x = .int i ∧ y = .int j ∧ C i j ∧ Q (g i j) H
def rI0 (g : Int → Int → V) : R2 := fun x y H Q => ∃ i j, x = .int i ∧ y = .int j ∧ Q (g i j) H
def rU (g : Int → V) : V → Hp → VK → Prop := fun x H Q => ∃ i, x = .int i ∧ Q (g i) H

section
variable {X : Cx} {a b c : Expr} {ta tb tc : TE} {pos : Pos}

theorem binT (ha : PE X a ta) (hb : PE X b tb) {pins : List (Addr × Obj)} {s : Shared} {σ : St} {H : Hp} {R : V → V → Hp → Prop} (I : Inv X pins σ H s)
    (h : ta σ H fun x H1 => tb σ H1 fun y H2 => R x y H2) {Q : Value → Shared → Prop} {f : Value → Value → Sem Value}
    (hf : ∀ v u s2 x y H2, Inv X pins σ H2 s2 → RelV x v → RelV y u → R x y H2 → wpAny (model X.prog X.w) X.A (f v u) Q X.xe s2) :
    wpAny (model X.prog X.w) X.A (eval a X.env) (fun v s₁ => wpAny (model X.prog X.w) X.A (eval b X.env) (fun u s₂ => wpAny (model X.prog X.w) X.A (f v u) Q X.xe s₂) X.xe s₁) X.xe s := by
  refine thn (ha pins s σ H _ I h) fun v s1 ⟨x, H1, I1, r1, q1⟩ => ?_
  refine thn (hb pins s1 σ H1 _ I1 q1) fun u s2 ⟨y, H2, I2, r2, q2⟩ => ?_
  exact hf v u s2 x y H2 I2 r1 r2 q2

theorem pe_op {op : Operator} {r : R2} (ho : OpR X (binaryOp op) r) (ha : PE X a ta) (hb : PE X b tb) : PE X (.BinOp a op b pos) (tOp r ta tb) := by
  intro pins s σ H Q I h
  exact wpAny_BinOp (binT ha hb I h fun v u s2 x y H2 I2 rx ry q => ho pins s2 σ H2 x y v u Q I2 rx ry q)
theorem pe_un {op : UnaryOp} {r : V → Hp → VK → Prop} (ho : UnR X (unaryOp op) r) (ha : PE X a ta) : PE X (.UnaryOp op a pos) (tUn r ta) := by
  intro pins s σ H Q I h
  exact UnaryOp_ (thn (ha pins s σ H _ I h) fun v s1 ⟨x, H1, I1, r1, q1⟩ => ho pins s1 σ H1 x v Q I1 r1 q1)
/-- a op= e at a name: the name's slot i -/
theorem augR {op : Operator} {r : R2} (ho : OpR X (inplaceOp op) r) {pins : List (Addr × Obj)} {s : Shared} {σ : St} {H : Hp} {x y : V} {v u : Value} {Q : VK} (I : Inv X pins σ H s)
    (rx : RelV x v) (ry : RelV y u) (q : r x y H Q) : wpAny (model X.prog X.w) X.A (inplaceOp op v u) (EP X pins σ Q) X.xe s := ho pins s σ H x y v u Q I rx ry q

/-! ### ints -/
theorem opI {f : Value → Value → Sem Value} {C : Int → Int → Prop} {g : Int → Int → Int}
    (rule : ∀ (i j : Int) (t u : Tok) (s : Shared) (Q : Value → Shared → Prop) (E : Value → Shared → Prop), C i j → Q (.int (g i j) s.toks) { s with toks := s.toks + 1 } → wpAny (model X.prog X.w) X.A (f (.int i t) (.int j u)) Q E s) :
    OpR X f (rI C fun i j => .int (g i j)) := by
  intro pins s σ H x y v u Q I rx ry h
  obtain ⟨i, j, rfl, rfl, hc, q⟩ := h
  obtain ⟨t, rfl⟩ := rx
  obtain ⟨t', rfl⟩ := ry
  exact rule i j t t' s _ _ hc ⟨.int (g i j), H, I.tok _, ⟨_, rfl⟩, q⟩
theorem opI0 {f : Value → Value → Sem Value} {g : Int → Int → Int}
    (rule : ∀ (i j : Int) (t u : Tok) (s : Shared) (Q : Value → Shared → Prop) (E : Value → Shared → Prop), Q (.int (g i j) s.toks) { s with toks := s.toks + 1 } → wpAny (model X.prog X.w) X.A (f (.int i t) (.int j u)) Q E s) :
    OpR X f (rI0 fun i j => .int (g i j)) := by
  intro pins s σ H x y v u Q I rx ry h
  obtain ⟨i, j, rfl, rfl, q⟩ := h
  obtain ⟨t, rfl⟩ := rx
  obtain ⟨t', rfl⟩ := ry
  exact rule i j t t' s _ _ ⟨.int (g i j), H, I.tok _, ⟨_, rfl⟩, q⟩
theorem opB0 {f : Value → Value → Sem Value} {g : Int → Int → Bool}
    (rule : ∀ (i j : Int) (t u : Tok) (s : Shared) (Q : Value → Shared → Prop) (E : Value → Shared → Prop), Q (.bool (g i j)) s → wpAny (model X.prog X.w) X.A (f (.int i t) (.int j u)) Q E s) :
    OpR X f (rI0 fun i j => .bl (g i j)) := by
  intro pins s σ H x y v u Q I rx ry h
  obtain ⟨i, j, rfl, rfl, q⟩ := h
  obtain ⟨t, rfl⟩ := rx
  obtain ⟨t', rfl⟩ := ry
  exact rule i j t t' s _ _ ⟨.bl (g i j), H, I, rfl, q⟩

def CDiv (i j : Int) : Prop := 0 < j ∧ j < 1073741824
def CDivN (i j : Int) : Prop := j ≠ 0 ∧ j.natAbs < 1073741824
def CPow (i j : Int) : Prop := 0 ≤ j ∧ j ≤ 1000000 ∧ i.natAbs < 2 ^ 64
def CMul (i j : Int) : Prop := (-(2 ^ 64) < i ∧ i < 2 ^ 64) ∨ (-(2 ^ 64) < j ∧ j < 2 ^ 64)
theorem CMul.ok {i j : Int} (h : CMul i j) : IntMulOk i j := by
  rcases h with ⟨h1, h2⟩ | ⟨h1, h2⟩
  · exact .of_left (intBits_le_64 h1 h2)
  · exact .of_right (intBits_le_64 h1 h2)
theorem two_pow_nn (k : Nat) : (0 : Int) ≤ 2 ^ k := by
  rw [two_pow_cast]
  exact Int.natCast_nonneg _

theorem op_add : OpR X (binaryOp .Add) (rI0 fun i j => .int (i + j)) := opI0 fun _ _ _ _ _ _ _ q => add_int q
theorem op_sub : OpR X (binaryOp .Sub) (rI0 fun i j => .int (i - j)) := opI0 fun _ _ _ _ _ _ _ q => sub_int q
theorem op_mul : OpR X (binaryOp .Mult) (rI CMul fun i j => .int (i * j)) := opI fun _ _ _ _ _ _ _ hc q => mul_int q hc.ok
/-- // by a positive divisor -/
theorem op_fdiv : OpR X (binaryOp .FloorDiv) (rI CDiv fun i j => .int (i / j)) := opI fun i j _ _ _ _ _ hc q => by
  have h1 : (0 : Int) < j := hc.1
  have h2 : j < 1073741824 := hc.2
  exact floordiv_int (by omega) (by rw [Int.fdiv_eq_ediv_of_nonneg i (by omega)]; exact q) (.inl (PyProof.noPylong_small (by omega)))
theorem op_fdivN : OpR X (binaryOp .FloorDiv) (rI CDivN fun i j => .int (i.fdiv j)) := opI fun _ _ _ _ _ _ _ hc q => floordiv_int hc.1 q (.inl (PyProof.noPylong_small hc.2))
/-- % by a positive divisor of any size -/
theorem op_mod : OpR X (binaryOp .Mod) (rI (fun _ j => 0 < j) fun i j => .int (i % j)) := opI fun i j _ _ _ _ _ hc q => by
  have h1 : (0 : Int) < j := hc
  exact mod_int' (by omega) (by rw [Int.fmod_eq_emod_of_nonneg i (by omega)]; exact q)
theorem op_modN : OpR X (binaryOp .Mod) (rI (fun _ j => j ≠ 0) fun i j => .int (i.fmod j)) := opI fun _ _ _ _ _ _ _ hc q => mod_int' hc q
theorem op_pow : OpR X (binaryOp .Pow) (rI CPow fun i j => .int (i ^ j.toNat)) := opI fun _ _ _ _ _ _ _ hc q => pow_int_small hc.1 hc.2.1 hc.2.2 q
theorem op_shl : OpR X (binaryOp .LShift) (rI CPow fun i j => .int (i * 2 ^ j.toNat)) := opI fun _ _ _ _ _ _ _ hc q => lshift_int_small hc.1 hc.2.1 hc.2.2 q
theorem op_shr : OpR X (binaryOp .RShift) (rI (fun _ j => 0 ≤ j) fun i j => .int (i / 2 ^ j.toNat)) := opI fun i j _ _ _ _ _ hc q =>
  rshift_int hc (by rw [Int.fdiv_eq_ediv_of_nonneg i (two_pow_nn _)]; exact q)
theorem op_and : OpR X (binaryOp .BitAnd) (rI0 fun i j => .int (Builtin.bitAnd i j)) := opI0 fun _ _ _ _ _ _ _ q => and_int q
theorem op_or : OpR X (binaryOp .BitOr) (rI0 fun i j => .int (Builtin.bitOr i j)) := opI0 fun _ _ _ _ _ _ _ q => or_int q
theorem op_xor : OpR X (binaryOp .BitXor) (rI0 fun i j => .int (Builtin.bitXor i j)) := opI0 fun _ _ _ _ _ _ _ q => xor_int q

theorem iop_add : OpR X (inplaceOp .Add) (rI0 fun i j => .int (i + j)) := opI0 fun _ _ _ _ _ _ _ q => iadd_int q
theorem iop_sub : OpR X (inplaceOp .Sub) (rI0 fun i j => .int (i - j)) := opI0 fun _ _ _ _ _ _ _ q => isub_int q
theorem iop_mul : OpR X (inplaceOp .Mult) (rI CMul fun i j => .int (i * j)) := opI fun _ _ _ _ _ _ _ hc q => imul_int q hc.ok
theorem iop_fdiv : OpR X (inplaceOp .FloorDiv) (rI CDiv fun i j => .int (i / j)) := opI fun i j _ _ _ _ _ hc q => by
  have h1 : (0 : Int) < j := hc.1
  have h2 : j < 1073741824 := hc.2
  exact ifloordiv_int (by omega) (by rw [Int.fdiv_eq_ediv_of_nonneg i (by omega)]; exact q) (.inl (PyProof.noPylong_small (by omega)))
theorem iop_mod : OpR X (inplaceOp .Mod) (rI (fun _ j => 0 < j) fun i j => .int (i % j)) := opI fun i j _ _ _ _ _ hc q => by
  have h1 : (0 : Int) < j := hc
  exact imod_int (by omega) (by rw [Int.fmod_eq_emod_of_nonneg i (by omega)]; exact q)
theorem iop_shl : OpR X (inplaceOp .LShift) (rI CPow fun i j => .int (i * 2 ^ j.toNat)) := opI fun _ _ _ _ _ _ _ hc q => ilshift_int_small hc.1 hc.2.1 hc.2.2 q
theorem iop_shr : OpR X (inplaceOp .RShift) (rI (fun _ j => 0 ≤ j) fun i j => .int (i / 2 ^ j.toNat)) := opI fun i j _ _ _ _ _ hc q =>
  irshift_int hc (by rw [Int.fdiv_eq_ediv_of_nonneg i (two_pow_nn _)]; exact q)
theorem iop_and : OpR X (inplaceOp .BitAnd) (rI0 fun i j => .int (Builtin.bitAnd i j)) := opI0 fun _ _ _ _ _ _ _ q => iand_int q
theorem iop_or : OpR X (inplaceOp .BitOr) (rI0 fun i j => .int (Builtin.bitOr i j)) := opI0 fun _ _ _ _ _ _ _ q => ior_int q
theorem iop_xor : OpR X (inplaceOp .BitXor) (rI0 fun i j => .int (Builtin.bitXor i j)) := opI0 fun _ _ _ _ _ _ _ q => ixor_int q

theorem unI {f : Value → Sem Value} {g : Int → Int}
    (rule : ∀ (i : Int) (t : Tok) (s : Shared) (Q : Value → Shared → Prop) (E : Value → Shared → Prop), Q (.int (g i) s.toks) { s with toks := s.toks + 1 } → wpAny (model X.prog X.w) X.A (f (.int i t)) Q E s) :
    UnR X f (rU fun i => .int (g i)) := by
  intro pins s σ H x v Q I rx h
  obtain ⟨i, rfl, q⟩ := h
  obtain ⟨t, rfl⟩ := rx
  exact rule i t s _ _ ⟨.int (g i), H, I.tok _, ⟨_, rfl⟩, q⟩
theorem un_neg : UnR X (unaryOp .USub) (rU fun i => .int (-i)) := unI fun _ _ _ _ _ q => neg_int q
theorem un_inv : UnR X (unaryOp .Invert) (rU fun i => .int (Builtin.bitNot i)) := unI fun _ _ _ _ _ q => invert_int q

/-! ### bools among ints: n += (a < b) -/
theorem op_add_ib : OpR X (binaryOp .Add) (fun x y H Q => ∃ i k, x = .int i ∧ y = .bl k ∧ Q (.int (i + b2i k)) H) := by
  intro pins s σ H x y v u Q I rx ry h
  obtain ⟨i, k, rfl, rfl, q⟩ := h
  obtain ⟨t, rfl⟩ := rx
  cases ry
  exact add_int_bool ⟨.int (i + b2i k), H, I.tok _, ⟨_, rfl⟩, q⟩
end

/-! ### comparisons -/
/-- the scalars that == tells apart as data does -/
def scal : V → V → Bool
  | .non, .non => true | .non, .int _ => true | .int _, .non => true | .non, .bl _ => true | .bl _, .non => true | .non, .str _ => true | .str _, .non => true
  | .int _, .int _ => true | .bl _, .bl _ => true | .str _, .str _ => true | .byt _, .byt _ => true
  | .int _, .str _ => true | .str _, .int _ => true | .bl _, .str _ => true | .str _, .bl _ => true
  | _, _ => false
def rEq : R2 := fun x y H Q => scal x y = true ∧ Q (.bl (decide (x = y))) H
def rNe : R2 := fun x y H Q => scal x y = true ∧ Q (.bl (!decide (x = y))) H

theorem dec_int {i j : Int} : decide (V.int i = V.int j) = (i == j) := by
  rw [Bool.eq_iff_iff]
  simp
theorem dec_bl {i j : Bool} : decide (V.bl i = V.bl j) = (i == j) := by
  rw [Bool.eq_iff_iff]
  simp
theorem dec_str {i j : Str} : decide (V.str i = V.str j) = (i == j) := by
  rw [Bool.eq_iff_iff]
  simp
theorem dec_byt {i j : Array UInt8} : decide (V.byt i = V.byt j) = (i.toList == j.toList) := by
  rw [Bool.eq_iff_iff]
  cases i
  cases j
  simp

section
variable {X : Cx} {a b c : Expr} {ta tb tc : TE} {pos : Pos}
theorem fin_bl {pins : List (Addr × Obj)} {σ : St} {H : Hp} {s : Shared} {Q : VK} {k k' : Bool} (I : Inv X pins σ H s) (q : Q (.bl k) H) (e : k = k') : EP X pins σ Q (.bool k') s := by
  subst e
  exact ⟨.bl k, H, I, rfl, q⟩
theorem op_eq : OpR X (compareOp .Eq) rEq := by
  intro pins s σ H x y v u Q I rx ry h
  obtain ⟨hs, q⟩ := h
  cases x with
  | non =>
    cases rx
    cases y with
    | non => cases ry; exact PySem.EqNone.eq_none_none (fin_bl I q (by simp))
    | bl j => cases ry; exact PySem.EqNone.eq_none_bool (fin_bl I q (by simp))
    | int j => obtain ⟨t', rfl⟩ := ry; exact PySem.EqNone.eq_none_int (fin_bl I q (by simp))
    | str j => obtain ⟨t', rfl⟩ := ry; exact PySem.EqNone.eq_none_str (fin_bl I q (by simp))
    | _ => exact absurd (show false = true from hs) Bool.false_ne_true
  | bl i =>
    cases rx
    cases y with
    | non => cases ry; exact PySem.EqNone.eq_bool_none (fin_bl I q (by simp))
    | bl j => cases ry; exact eq_bool (fin_bl I q dec_bl)
    | str j => obtain ⟨t', rfl⟩ := ry; exact PySem.EqMixed.eq_bool_str (fin_bl I q (by simp))
    | _ => exact absurd (show false = true from hs) Bool.false_ne_true
  | int i =>
    obtain ⟨t, rfl⟩ := rx
    cases y with
    | non => cases ry; exact PySem.EqNone.eq_int_none (fin_bl I q (by simp))
    | int j => obtain ⟨t', rfl⟩ := ry; exact eq_int (fin_bl I q dec_int)
    | str j => obtain ⟨t', rfl⟩ := ry; exact PySem.EqMixed.eq_int_str (fin_bl I q (by simp))
    | _ => exact absurd (show false = true from hs) Bool.false_ne_true
  | str i =>
    obtain ⟨t, rfl⟩ := rx
    cases y with
    | non => cases ry; exact PySem.EqNone.eq_str_none (fin_bl I q (by simp))
    | bl j => cases ry; exact PySem.EqMixed.eq_str_bool (fin_bl I q (by simp))
    | int j => obtain ⟨t', rfl⟩ := ry; exact PySem.EqMixed.eq_str_int (fin_bl I q (by simp))
    | str j => obtain ⟨t', rfl⟩ := ry; exact eq_str (fin_bl I q dec_str)
    | _ => exact absurd (show false = true from hs) Bool.false_ne_true
  | byt i =>
    obtain ⟨t, rfl⟩ := rx
    cases y with
    | byt j => obtain ⟨t', rfl⟩ := ry; exact PySem.W.eq_bytes (fin_bl I q dec_byt)
    | _ => exact absurd (show false = true from hs) Bool.false_ne_true
  | _ => cases y <;> exact absurd (show false = true from hs) Bool.false_ne_true
theorem op_ne : OpR X (compareOp .NotEq) rNe := by
  intro pins s σ H x y v u Q I rx ry h
  obtain ⟨hs, q⟩ := h
  cases x with
  | non =>
    cases rx
    cases y with
    | non => cases ry; exact PySem.EqNone.ne_none_none (fin_bl I q (by simp))
    | bl j => cases ry; exact PySem.EqNone.ne_none_bool (fin_bl I q (by simp))
    | int j => obtain ⟨t', rfl⟩ := ry; exact PySem.EqNone.ne_none_int (fin_bl I q (by simp))
    | str j => obtain ⟨t', rfl⟩ := ry; exact PySem.EqNone.ne_none_str (fin_bl I q (by simp))
    | _ => exact absurd (show false = true from hs) Bool.false_ne_true
  | bl i =>
    cases rx
    cases y with
    | non => cases ry; exact PySem.EqNone.ne_bool_none (fin_bl I q (by simp))
    | bl j => cases ry; exact ne_bool (fin_bl I q (congrArg not dec_bl))
    | str j => obtain ⟨t', rfl⟩ := ry; exact PySem.EqMixed.ne_bool_str (fin_bl I q (by simp))
    | _ => exact absurd (show false = true from hs) Bool.false_ne_true
  | int i =>
    obtain ⟨t, rfl⟩ := rx
    cases y with
    | non => cases ry; exact PySem.EqNone.ne_int_none (fin_bl I q (by simp))
    | int j => obtain ⟨t', rfl⟩ := ry; exact ne_int (fin_bl I q (congrArg not dec_int))
    | str j => obtain ⟨t', rfl⟩ := ry; exact PySem.EqMixed.ne_int_str (fin_bl I q (by simp))
    | _ => exact absurd (show false = true from hs) Bool.false_ne_true
  | str i =>
    obtain ⟨t, rfl⟩ := rx
    cases y with
    | non => cases ry; exact PySem.EqNone.ne_str_none (fin_bl I q (by simp))
    | bl j => cases ry; exact PySem.EqMixed.ne_str_bool (fin_bl I q (by simp))
    | int j => obtain ⟨t', rfl⟩ := ry; exact PySem.EqMixed.ne_str_int (fin_bl I q (by simp))
    | str j => obtain ⟨t', rfl⟩ := ry; exact ne_str (fin_bl I q (congrArg not dec_str))
    | _ => exact absurd (show false = true from hs) Bool.false_ne_true
  | byt i =>
    obtain ⟨t, rfl⟩ := rx
    cases y with
    | byt j => obtain ⟨t', rfl⟩ := ry; exact PySem.W.ne_bytes (fin_bl I q (congrArg not dec_byt))
    | _ => exact absurd (show false = true from hs) Bool.false_ne_true
  | _ => cases y <;> exact absurd (show false = true from hs) Bool.false_ne_true

theorem op_lt : OpR X (compareOp .Lt) (rI0 fun i j => .bl (decide (i < j))) := opB0 fun _ _ _ _ _ _ _ q => lt_int q
theorem op_le : OpR X (compareOp .LtE) (rI0 fun i j => .bl (decide (i ≤ j))) := opB0 fun _ _ _ _ _ _ _ q => le_int q
theorem op_gt : OpR X (compareOp .Gt) (rI0 fun i j => .bl (decide (j < i))) := opB0 fun _ _ _ _ _ _ _ q => gt_int q
theorem op_ge : OpR X (compareOp .GtE) (rI0 fun i j => .bl (decide (j ≤ i))) := opB0 fun _ _ _ _ _ _ _ q => ge_int q
theorem op_lt_str : OpR X (compareOp .Lt) (fun x y H Q => ∃ i j, x = .str i ∧ y = .str j ∧ Q (.bl (decide (i.cps.toList < j.cps.toList))) H) := by
  intro pins s σ H x y v u Q I rx ry h
  obtain ⟨i, j, rfl, rfl, q⟩ := h
  obtain ⟨t, rfl⟩ := rx
  obtain ⟨t', rfl⟩ := ry
  exact lt_str (fin_bl I q rfl)
/-- the one string within the other -/
theorem op_in_str : OpR X (compareOp .In) (fun x y H Q => ∃ i j, x = .str i ∧ y = .str j ∧ Q (.bl (!(Builtin.Str.occurrences j i 0 j.length 1).isEmpty)) H) := by
  intro pins s σ H x y v u Q I rx ry h
  obtain ⟨i, j, rfl, rfl, q⟩ := h
  obtain ⟨t, rfl⟩ := rx
  obtain ⟨t', rfl⟩ := ry
  exact in_str (fin_bl I q rfl)

/-- is None, is not None: the right side a value none -/
theorem op_isN : OpR X (compareOp .Is) (fun x y H Q => y = .non ∧ Q (.bl (decide (x = .non))) H) := by
  intro pins s σ H x y v u Q I rx ry h
  obtain ⟨rfl, q⟩ := h
  cases ry
  refine is_none_gen (fin_bl I q ?_)
  cases x <;> first
    | (cases rx; rfl)
    | (obtain ⟨t, rfl⟩ := rx; rfl)
theorem op_notN : OpR X (compareOp .IsNot) (fun x y H Q => y = .non ∧ Q (.bl (!decide (x = .non))) H) := by
  intro pins s σ H x y v u Q I rx ry h
  obtain ⟨rfl, q⟩ := h
  cases ry
  refine isnot_none_gen (fin_bl I q ?_)
  cases x <;> first
    | (cases rx; rfl)
    | (obtain ⟨t, rfl⟩ := rx; rfl)

theorem op_notin_str : OpR X (compareOp .NotIn) (fun x y H Q => ∃ i j, x = .str i ∧ y = .str j ∧ Q (.bl (!(!(Builtin.Str.occurrences j i 0 j.length 1).isEmpty))) H) := by
  intro pins s σ H x y v u Q I rx ry h
  obtain ⟨i, j, rfl, rfl, q⟩ := h
  obtain ⟨t, rfl⟩ := rx
  obtain ⟨t', rfl⟩ := ry
  exact notIn_str (fin_bl I q rfl)
/-- is, is not of two objects that are tracked lists or instances -/
def isObj : HO → Bool
  | .lst _ => true
  | .ins _ _ _ => true
  | _ => false
theorem obj_there {pins : List (Addr × Obj)} {s : Shared} {σ : St} {H : Hp} {a : Addr} {o : HO} (I : Inv X pins σ H s) (h : H a = some o) (p : isObj o = true) : ∃ ob, s.heap.get? a = some ob ∧ ob.cls ≠ .type "tuple" := by
  cases o with
  | lst xs =>
    obtain ⟨_, its, n, _, e⟩ : xs.length ≤ sizeLine ∧ ∃ (its : List Value) (n : Nat), Vals xs its ∧ s.heap.get? a = some { cls := .type "list", data := .seq its.toArray n } := I.hok a _ h
    exact ⟨_, e, (by show Value.type "list" ≠ .type "tuple"; decide +kernel)⟩
  | ins C dx fs =>
    have x := I.hok a _ h
    obtain ⟨_, _, _, e, _⟩ := x
    exact ⟨_, e, (by show Value.ref C ≠ .type "tuple"; exact fun z => by cases z)⟩
  | _ => exact absurd (show false = true from p) Bool.false_ne_true
theorem op_is_ref : OpR X (compareOp .Is) (fun x y H Q => ∃ a b oa ob, x = .ref a ∧ y = .ref b ∧ H a = some oa ∧ isObj oa = true ∧ H b = some ob ∧ isObj ob = true ∧ Q (.bl (decide (a = b))) H) := by
  intro pins s σ H x y v u Q I rx ry h
  obtain ⟨a, b, oa, ob, rfl, rfl, ha, pa, hb, pb, q⟩ := h
  cases rx
  cases ry
  obtain ⟨o1, e1, n1⟩ := obj_there I ha pa
  obtain ⟨o2, e2, _⟩ := obj_there I hb pb
  by_cases z : a = b
  · subst z
    exact wpAny_is_ref_self (fin_bl I q (by simp))
  · exact wpAny_is_ref_other z e1 e2 n1 (fin_bl I q (by simp [z]))
theorem op_isnot_ref : OpR X (compareOp .IsNot) (fun x y H Q => ∃ a b oa ob, x = .ref a ∧ y = .ref b ∧ H a = some oa ∧ isObj oa = true ∧ H b = some ob ∧ isObj ob = true ∧ Q (.bl (!decide (a = b))) H) := by
  intro pins s σ H x y v u Q I rx ry h
  obtain ⟨a, b, oa, ob, rfl, rfl, ha, pa, hb, pb, q⟩ := h
  cases rx
  cases ry
  obtain ⟨o1, e1, n1⟩ := obj_there I ha pa
  obtain ⟨o2, e2, _⟩ := obj_there I hb pb
  by_cases z : a = b
  · subst z
    exact wpAny_isNot_ref_self (fin_bl I q (by simp))
  · exact wpAny_isNot_ref_other z e1 e2 n1 (fin_bl I q (by simp [z]))

/-- two rules for one operation: by cases -/
theorem OpR.or {f : Value → Value → Sem Value} {r r' : R2} (h : OpR X f r) (h' : OpR X f r') : OpR X f (fun x y H Q => r x y H Q ∨ r' x y H Q) := by
  intro pins s σ H x y v u Q I rx ry q
  rcases q with q | q
  · exact h pins s σ H x y v u Q I rx ry q
  · exact h' pins s σ H x y v u Q I rx ry q

theorem nomark (b : Expr) {op : CmpOp} (h : op ≠ .In := by decide) (h2 : op ≠ .NotIn := by decide) : behindInMarks op b = false := by
  have e1 : (op == CmpOp.In) = false := by cases op <;> first | rfl | exact absurd rfl h
  have e2 : (op == CmpOp.NotIn) = false := by cases op <;> first | rfl | exact absurd rfl h2
  cases b <;> simp [behindInMarks, e1, e2]
/-- a comparison as a value; hm: nomark b, or (for in, not in) by with_unfolding_all rfl -/
theorem pe_cmpR {op : CmpOp} {r : R2} (ho : OpR X (compareOp op) r) (ha : PE X a ta) (hb : PE X b tb) (hm : behindInMarks op b = false) : PE X (.Compare a [op] [b] pos) (tOp r ta tb) := by
  intro pins s σ H Q I h
  exact wpAny_Compare1 (binT ha hb I h fun v u s2 x y H2 I2 rx ry q => ho pins s2 σ H2 x y v u Q I2 rx ry q) hm
/-- a reading of a value as a test -/
def tTest (t : TE) : TT := fun σ H Q => t σ H fun x H' => ∃ k, x = .bl k ∧ Q k H'
theorem pt_cmpR {op : CmpOp} {r : R2} (ho : OpR X (compareOp op) r) (ha : PE X a ta) (hb : PE X b tb) (hm : behindInMarks op b = false) : PT X (.Compare a [op] [b] pos) (tTest (tOp r ta tb)) := by
  intro pins s σ H Q I h
  refine wpAny_isTrue_Compare1 (thn (ha pins s σ H _ I h) fun v s1 ⟨x, H1, I1, r1, q1⟩ => thn (hb pins s1 σ H1 _ I1 q1) fun u s2 ⟨y, H2, I2, r2, q2⟩ =>
    thn (ho pins s2 σ H2 x y v u _ I2 r1 r2 q2) fun c s3 ⟨z, H3, I3, r3, k, e, q3⟩ => ?_) hm
  subst e
  cases r3
  exact wpAny_truthy_bool ⟨H3, I3, q3⟩
/-- a op1 b op2 c -/
def tChain (r r' : R2) (ta tb tc : TE) : TE := fun σ H Q => ta σ H fun x H1 => tb σ H1 fun y H2 => r x y H2 fun z H3 => ∃ k, z = .bl k ∧
  (if k = true then tc σ H3 fun w' H4 => r' y w' H4 Q else Q (.bl false) H3)
theorem pe_chain {op op' : CmpOp} {r r' : R2} (ho : OpR X (compareOp op) r) (ho' : OpR X (compareOp op') r') (ha : PE X a ta) (hb : PE X b tb) (hc : PE X c tc)
    (hm : lastMarks [op, op'] [b, c] = false := by with_unfolding_all rfl) : PE X (.Compare a [op, op'] [b, c] pos) (tChain r r' ta tb tc) := by
  intro pins s σ H Q I h
  refine Compare_chain (thn (ha pins s σ H _ I h) fun v s1 ⟨x, H1, I1, r1, q1⟩ => chain_link (thn (hb pins s1 σ H1 _ I1 q1) fun u s2 ⟨y, H2, I2, r2, q2⟩ =>
    thn (ho pins s2 σ H2 x y v u _ I2 r1 r2 q2) fun d s3 ⟨z, H3, I3, r3, k, e, q3⟩ => ?_)) hm
  subst e
  cases r3
  refine wpAny_truthy_bool ?_
  cases k with
  | false => exact ite_ff ⟨.bl false, H3, I3, rfl, q3⟩
  | true => exact ite_tt (chain_last (thn (hc pins s3 σ H3 _ I3 q3) fun w' s4 ⟨z', H4, I4, r4, q4⟩ => ho' pins s4 σ H4 y z' u w' Q I4 r2 r4 q4))
theorem pt_chain {op op' : CmpOp} {r r' : R2} (ho : OpR X (compareOp op) r) (ho' : OpR X (compareOp op') r') (ha : PE X a ta) (hb : PE X b tb) (hc : PE X c tc)
    (hm : lastMarks [op, op'] [b, c] = false := by with_unfolding_all rfl) : PT X (.Compare a [op, op'] [b, c] pos) (tTest (tChain r r' ta tb tc)) := by
  intro pins s σ H Q I h
  refine isTrue_chain (thn (ha pins s σ H _ I h) fun v s1 ⟨x, H1, I1, r1, q1⟩ => test_link (thn (hb pins s1 σ H1 _ I1 q1) fun u s2 ⟨y, H2, I2, r2, q2⟩ =>
    thn (ho pins s2 σ H2 x y v u _ I2 r1 r2 q2) fun d s3 ⟨z, H3, I3, r3, k, e, q3⟩ => ?_)) hm
  subst e
  cases r3
  refine wpAny_truthy_bool ?_
  cases k with
  | false =>
    obtain ⟨k', e', q'⟩ := q3
    cases e'
    exact ite_ff ⟨H3, I3, q'⟩
  | true =>
    refine ite_tt (test_last (thn (hc pins s3 σ H3 _ I3 q3) fun w' s4 ⟨z', H4, I4, r4, q4⟩ => thn (ho' pins s4 σ H4 y z' u w' _ I4 r2 r4 q4) fun d' s5 ⟨z2, H5, I5, r5, k2, e2, q5⟩ => ?_))
    subst e2
    cases r5
    exact wpAny_truthy_bool ⟨H5, I5, q5⟩

/-! ### truth -/
/-- a value's truth by the abstract heap -/
def TruV (K : PySem.W.Frag) (x : V) (H : Hp) (k : Bool) : Prop :=
  match x with
  | .non => k = false
  | .bl b => k = b
  | .int i => k = (i != 0)
  | .str y => y.length ≤ sizeLine ∧ k = ((y.length : Int) != 0)
  | .byt y => y.size ≤ sizeLine ∧ k = ((y.size : Int) != 0)
  | .ref p => (∃ xs, SqL K H p xs ∧ k = !xs.isEmpty) ∨ (∃ xs, SqT K H p xs ∧ k = !xs.isEmpty) ∨ ∃ kvs, H p = some (.dK kvs) ∧ k = !kvs.isEmpty
  | _ => False
theorem isEmpty_kv {κ : Type} {kvs : List (κ × V)} {vs : List (κ × Value)} (r : KV kvs vs) : (!vs.isEmpty) = !kvs.isEmpty := by
  cases r <;> rfl
theorem isEmpty_of {xs : List V} {its : List Value} (r : Vals xs its) : (!its.toArray.isEmpty) = !xs.isEmpty := by
  cases r <;> simp
theorem line63 : (sizeLine : Nat) < 2 ^ 63 := by rw [sizeLine_eq]; decide
theorem tru_ok : TruR X (fun x H Q => ∃ k, TruV X.K x H k ∧ Q k H) := by
  intro pins s σ H x v Q I rx h
  obtain ⟨k, e, q⟩ := h
  have hl := line63
  have hs : sizeLine = 16777216 := sizeLine_eq
  cases x with
  | non =>
    cases rx
    have e' : k = false := e
    subst e'
    exact truthy_none ⟨H, I, q⟩
  | bl b =>
    cases rx
    have e' : k = b := e
    subst e'
    exact wpAny_truthy_bool ⟨H, I, q⟩
  | int i =>
    obtain ⟨t, rfl⟩ := rx
    have e' : k = (i != 0) := e
    subst e'
    exact PySem.P.truthy_int ⟨H, I, q⟩
  | str y =>
    obtain ⟨t, rfl⟩ := rx
    obtain ⟨hy, e'⟩ : y.length ≤ sizeLine ∧ k = ((y.length : Int) != 0) := e
    subst e'
    exact PySem.P.truthy_str (by omega) ⟨H, I.tok _, q⟩
  | byt y =>
    obtain ⟨t, rfl⟩ := rx
    obtain ⟨hy, e'⟩ : y.size ≤ sizeLine ∧ k = ((y.size : Int) != 0) := e
    subst e'
    exact PySem.W.truthy_bytes (by omega) ⟨H, I.tok _, q⟩
  | ref p =>
    cases rx
    have e' : (∃ xs, SqL X.K H p xs ∧ k = !xs.isEmpty) ∨ (∃ xs, SqT X.K H p xs ∧ k = !xs.isEmpty) ∨ ∃ kvs, H p = some (.dK kvs) ∧ k = !kvs.isEmpty := e
    rcases e' with ⟨xs, hx, e'⟩ | ⟨xs, hx, e'⟩ | ⟨kvs, hx, e'⟩
    · subst e'
      obtain ⟨its, r, pl, hz⟩ := I.list hx
      have hlen := r.length
      exact wpAny_truthy_list pl.isList (by simp only [List.size_toArray]; omega) ⟨H, I.tok _, by rw [isEmpty_of r]; exact q⟩
    · subst e'
      obtain ⟨its, r, pl, hz⟩ := I.tuple hx
      have hlen := r.length
      exact truthy_tuple pl (by simp only [List.size_toArray]; omega) ⟨H, I.tok _, by rw [isEmpty_of r]; exact q⟩
    · subst e'
      obtain ⟨hz, hS, vs, r, m⟩ : kvs.length ≤ sizeLine ∧ (p == sysModules) = false ∧ ∃ vs, KV kvs vs ∧ s.heap.DictOf (mixKind X.prog X.w) p vs := I.hok p _ hx
      have hlen : kvs.length = vs.length := Paired.length r
      exact wpAny_truthy_dict hS m (by omega) ⟨H, I.tok _, by rw [isEmpty_kv r]; exact q⟩
  | _ => exact (show False from e).elim
/-- any expression whose test is its value's truth (a name, a call, a subscript, a field ..: he by fun _ => rfl) -/
theorem pt_truth (ha : PE X a ta) (he : ∀ whole, isTrue a X.env whole = (do let v ← whole; standAt a.pos; holding [v] (truthy v))) :
    PT X a (fun σ H Q => ta σ H fun x H' => ∃ k, TruV X.K x H' k ∧ Q k H') := by
  intro pins s σ H Q I h
  exact isTrue_plain (thn (ha pins s σ H _ I h) fun v s1 ⟨x, H1, I1, r1, q1⟩ => tru_ok pins s1 σ H1 x v Q I1 r1 q1) (he _)

/-! ### strs and bytes -/
theorem pe_byt {x : List UInt8} {k : Nat} : PE X (.Constant (.bytes x) k pos) (fun _ H Q => Q (.byt x.toArray) H) := fun _ _ _ H _ I h => PySem.W.Constant_bytes ⟨.byt x.toArray, H, I.tok _, ⟨_, rfl⟩, h⟩
theorem op_add_str : OpR X (binaryOp .Add) (fun x y H Q => ∃ i j, x = .str i ∧ y = .str j ∧ i.length + j.length ≤ sizeLine ∧ Q (.str (i ++ j)) H) := by
  intro pins s σ H x y v u Q I rx ry h
  obtain ⟨i, j, rfl, rfl, hz, q⟩ := h
  obtain ⟨t, rfl⟩ := rx
  obtain ⟨t', rfl⟩ := ry
  exact add_str (fun t' tk => ⟨.str (i ++ j), H, I.tok _, ⟨_, rfl⟩, q⟩) hz
theorem iop_add_str : OpR X (inplaceOp .Add) (fun x y H Q => ∃ i j, x = .str i ∧ y = .str j ∧ i.length + j.length ≤ sizeLine ∧ Q (.str (i ++ j)) H) := by
  intro pins s σ H x y v u Q I rx ry h
  obtain ⟨i, j, rfl, rfl, hz, q⟩ := h
  obtain ⟨t, rfl⟩ := rx
  obtain ⟨t', rfl⟩ := ry
  exact iadd_str (fun t' tk => ⟨.str (i ++ j), H, I.tok _, ⟨_, rfl⟩, q⟩) hz
theorem op_add_byt : OpR X (binaryOp .Add) (fun x y H Q => ∃ i j, x = .byt i ∧ y = .byt j ∧ i.size + j.size ≤ 16777216 ∧ Q (.byt (i ++ j)) H) := by
  intro pins s σ H x y v u Q I rx ry h
  obtain ⟨i, j, rfl, rfl, hz, q⟩ := h
  obtain ⟨t, rfl⟩ := rx
  obtain ⟨t', rfl⟩ := ry
  exact PySem.W.KBy.add_bytes hz (fun t' tk => ⟨.byt (i ++ j), H, I.tok _, ⟨_, rfl⟩, q⟩)

def PlainIxT (b : Expr) : Prop := ∀ o i, subscripted b false o i = operate [o, i] (getItem o i)
/-- s[i], 0 ≤ i < len -/
theorem pe_item_str (ha : PE X a ta) (hb : PE X b tb) (hs : PlainIxT b) :
    PE X (.Subscript a b pos) (tOp (fun x y H Q => ∃ z i c, x = .str z ∧ y = .int i ∧ 0 ≤ i ∧ i < 2 ^ 63 ∧ i < z.length ∧ z.cps[i.toNat]? = some c ∧ Q (.str ⟨#[c]⟩) H) ta tb) := by
  intro pins s σ H Q I h
  refine Subscript_ (binT ha hb I h fun v u s2 x y H2 I2 rx ry q => ?_)
  obtain ⟨z, i, c, rfl, rfl, h0, h63, h1, hc, q⟩ := q
  obtain ⟨t, rfl⟩ := rx
  obtain ⟨t', rfl⟩ := ry
  have e : seqIndex? i z.length = some i.toNat := PySem.StrLaws.seqIndex_nonneg h0 h1
  exact tail_any (typeIs_str s2 z t) slot_str_getitem.lookup (getItem_str (c := c) (by
    have e1 : decide (i < -(2 ^ 63 : Int)) = false := decide_eq_false (by omega)
    have e2 : decide (i ≥ 2 ^ 63) = false := decide_eq_false (by omega)
    rw [e1, e2] <;> rfl) (by rw [e]; exact hc) ⟨.str ⟨#[c]⟩, H2, I2.tok _, ⟨_, rfl⟩, q⟩) (hs _ _)
/-- b[i], 0 ≤ i < len -/
theorem pe_item_byt (ha : PE X a ta) (hb : PE X b tb) (hs : PlainIxT b) :
    PE X (.Subscript a b pos) (tOp (fun x y H Q => ∃ (z : List UInt8) (i : Int), x = .byt z.toArray ∧ y = .int i ∧ z.length ≤ sizeLine ∧ 0 ≤ i ∧ i < z.length ∧ Q (.int ((z.getD i.toNat 0).toNat : Nat)) H) ta tb) := by
  intro pins s σ H Q I h
  refine Subscript_ (binT ha hb I h fun v u s2 x y H2 I2 rx ry q => ?_)
  obtain ⟨z, i, rfl, rfl, hz, h0, h1, q⟩ := q
  obtain ⟨t, rfl⟩ := rx
  obtain ⟨t', rfl⟩ := ry
  have hl : sizeLine = 16777216 := sizeLine_eq
  exact tail_any (PySem.W.typeIs_bytes s2 z.toArray t) PySem.W.FB.slot_bytes_getitem.lookup (PySem.W.getItem_bytes (by omega) h0 h1 ⟨.int ((z.getD i.toNat 0).toNat : Nat), H2, I2.tok _, ⟨_, rfl⟩, q⟩) (hs _ _)

/-! ### scalar builtins, by CallR -/
theorem vals1 {x : V} {us : List Value} (r : Vals [x] us) : ∃ u, us = [u] ∧ RelV x u := by
  cases r with
  | cons r1 r2 => cases r2; exact ⟨_, rfl, r1⟩
theorem vals2 {x y : V} {us : List Value} (r : Vals [x, y] us) : ∃ u w', us = [u, w'] ∧ RelV x u ∧ RelV y w' := by
  cases r with
  | cons r1 r2 =>
    cases r2 with
    | cons r3 r4 => cases r4; exact ⟨_, _, rfl, r1, r3⟩
theorem call_abs : CallR X (.builtin "abs") (fun xs H Q => ∃ i, xs = [.int i] ∧ Q (.int (if i < 0 then -i else i)) H) := by
  intro pins s σ H xs us Q I r h
  obtain ⟨i, rfl, q⟩ := h
  obtain ⟨u, rfl, t, rfl⟩ := vals1 r
  exact call_abs_int fun u tk => ⟨.int (if i < 0 then -i else i), H, I.tok _, ⟨_, rfl⟩, q⟩
theorem call_max2 (hc : X.calm = true) : CallR X (.builtin "max") (fun xs H Q => ∃ i j, xs = [.int i, .int j] ∧ Q (.int (if j > i then j else i)) H) := by
  intro pins s σ H xs us Q I r h
  obtain ⟨i, j, rfl, q⟩ := h
  obtain ⟨u, w', rfl, ⟨t, rfl⟩, ⟨t', rfl⟩⟩ := vals2 r
  refine max_two_ints (I.ok.hd hc) fun h' tk k => ⟨_, H, I.kept k, ?_, q⟩
  by_cases hj : j > i
  · rw [if_pos hj, if_pos hj]; exact ⟨_, rfl⟩
  · rw [if_neg hj, if_neg hj]; exact ⟨_, rfl⟩
theorem call_min2 (hc : X.calm = true) : CallR X (.builtin "min") (fun xs H Q => ∃ i j, xs = [.int i, .int j] ∧ Q (.int (if j < i then j else i)) H) := by
  intro pins s σ H xs us Q I r h
  obtain ⟨i, j, rfl, q⟩ := h
  obtain ⟨u, w', rfl, ⟨t, rfl⟩, ⟨t', rfl⟩⟩ := vals2 r
  refine min_two_ints (I.ok.hd hc) fun h' tk k => ⟨_, H, I.kept k, ?_, q⟩
  by_cases hj : j < i
  · rw [if_pos hj, if_pos hj]; exact ⟨_, rfl⟩
  · rw [if_neg hj, if_neg hj]; exact ⟨_, rfl⟩
theorem call_int1 : CallR X (.type "int") (fun xs H Q => (∃ i, xs = [.int i] ∧ Q (.int i) H) ∨ ∃ k, xs = [.bl k] ∧ Q (.int (if k then 1 else 0)) H) := by
  intro pins s σ H xs us Q I r h
  rcases h with ⟨i, rfl, q⟩ | ⟨k, rfl, q⟩
  · obtain ⟨u, rfl, t, rfl⟩ := vals1 r
    exact call_int_int ⟨.int i, H, I, ⟨_, rfl⟩, q⟩
  · obtain ⟨u, rfl, r1⟩ := vals1 r
    cases r1
    exact call_int_bool ⟨.int (if k then 1 else 0), H, I.tok _, ⟨_, rfl⟩, q⟩
theorem call_bool1 : CallR X (.type "bool") (fun xs H Q => (∃ i, xs = [.int i] ∧ Q (.bl (i != 0)) H) ∨ ∃ k, xs = [.bl k] ∧ Q (.bl k) H) := by
  intro pins s σ H xs us Q I r h
  rcases h with ⟨i, rfl, q⟩ | ⟨k, rfl, q⟩
  · obtain ⟨u, rfl, t, rfl⟩ := vals1 r
    exact call_bool_int ⟨.bl (i != 0), H, I, rfl, q⟩
  · obtain ⟨u, rfl, r1⟩ := vals1 r
    cases r1
    exact call_bool_bool ⟨.bl k, H, I, rfl, q⟩
theorem call_str_int : CallR X (.type "str") (fun xs H Q => ∃ i, xs = [.int i] ∧ i.natAbs.log2 < 1920 ∧ Q (.str (toString i)) H) := by
  intro pins s σ H xs us Q I r h
  obtain ⟨i, rfl, hz, q⟩ := h
  obtain ⟨u, rfl, t, rfl⟩ := vals1 r
  exact PySem.P.str_of_int hz ⟨.str _, H, I.tok _, ⟨_, rfl⟩, q⟩
theorem call_ord : CallR X (.builtin "ord") (fun xs H Q => ∃ x, xs = [.str x] ∧ x.length = 1 ∧ Q (.int (x.cps.getD 0 0 : Nat)) H) := by
  intro pins s σ H xs us Q I r h
  obtain ⟨x, rfl, hz, q⟩ := h
  obtain ⟨u, rfl, t, rfl⟩ := vals1 r
  exact ord_of_one hz ⟨.int _, H, I.tok _, ⟨_, rfl⟩, q⟩
theorem call_chr : CallR X (.builtin "chr") (fun xs H Q => ∃ i, xs = [.int i] ∧ 0 ≤ i ∧ i ≤ 1114111 ∧ Q (.str ⟨#[i.toNat]⟩) H) := by
  intro pins s σ H xs us Q I r h
  obtain ⟨i, rfl, h0, h1, q⟩ := h
  obtain ⟨u, rfl, t, rfl⟩ := vals1 r
  exact chr_of_range h0 h1 ⟨.str _, H, I.tok _, ⟨_, rfl⟩, q⟩
/-- len of a str, a bytes, a list, a tuple -/
def LenV (K : PySem.W.Frag) (x : V) (H : Hp) (n : Nat) : Prop :=
  match x with
  | .str y => y.length ≤ sizeLine ∧ n = y.length
  | .byt y => y.size ≤ sizeLine ∧ n = y.size
  | .ref p => (∃ xs, SqL K H p xs ∧ n = xs.length) ∨ ∃ xs, SqT K H p xs ∧ n = xs.length
  | _ => False
theorem call_len : CallR X (.builtin "len") (fun xs H Q => ∃ x n, xs = [x] ∧ LenV X.K x H n ∧ Q (.int n) H) := by
  intro pins s σ H xs us Q I r h
  obtain ⟨x, n, rfl, e, q⟩ := h
  obtain ⟨u, rfl, rx⟩ := vals1 r
  have hl := line63
  have hs : sizeLine = 16777216 := sizeLine_eq
  cases x with
  | str y =>
    obtain ⟨t, rfl⟩ := rx
    obtain ⟨hy, e'⟩ : y.length ≤ sizeLine ∧ n = y.length := e
    subst e'
    exact len_str (by omega) ⟨.int _, H, I.tok _, ⟨_, rfl⟩, q⟩
  | byt y =>
    obtain ⟨t, rfl⟩ := rx
    obtain ⟨hy, e'⟩ : y.size ≤ sizeLine ∧ n = y.size := e
    subst e'
    exact PySem.W.len_bytes (by omega) ⟨.int _, H, I.tok _, ⟨_, rfl⟩, q⟩
  | ref p =>
    cases rx
    have e' : (∃ xs, SqL X.K H p xs ∧ n = xs.length) ∨ ∃ xs, SqT X.K H p xs ∧ n = xs.length := e
    rcases e' with ⟨xs, hx, e'⟩ | ⟨xs, hx, e'⟩
    · subst e'
      obtain ⟨its, r', pl, hz⟩ := I.list hx
      have hlen := r'.length
      exact Calls.call_len_list pl.isList (by simp only [List.size_toArray]; omega) ⟨.int xs.length, H, I.tok _, ⟨_, by simp only [List.size_toArray]; rw [hlen]⟩, q⟩
    · subst e'
      obtain ⟨its, r', pl, hz⟩ := I.tuple hx
      have hlen := r'.length
      exact len_tuple pl (by simp only [List.size_toArray]; omega) ⟨.int xs.length, H, I.tok _, ⟨_, by simp only [List.size_toArray]; rw [hlen]⟩, q⟩
  | _ => exact (show False from e).elim
/-- divmod: a new tuple -/
theorem call_divmod : CallR X (.builtin "divmod") (fun xs H Q => ∃ i j, xs = [.int i, .int j] ∧ CDiv i j ∧ ∀ p, H p = none → Q (.ref p) (upd H p (.tup [.int (i / j), .int (i % j)]))) := by
  intro pins s σ H xs us Q I r h
  obtain ⟨i, j, rfl, ⟨h1, h2⟩, q⟩ := h
  obtain ⟨u, w', rfl, ⟨t, rfl⟩, ⟨t', rfl⟩⟩ := vals2 r
  refine divmod_int (by omega) ?_ (.inl (PyProof.noPylong_small (by omega)))
  rw [Int.fdiv_eq_ediv_of_nonneg i (by omega), Int.fmod_eq_emod_of_nonneg i (by omega)]
  have hn : H s.heap.objs.size = none := I.hok.fresh (Nat.le_refl _)
  refine ⟨.ref s.heap.objs.size, _, ?_, rfl, q _ hn⟩
  refine I.laid (fun b o e => Heap.get?_push_of_some _ e) (Nat.le_refl _) ⟨by simp only [List.length_cons, List.length_nil]; rw [sizeLine_eq]; decide, [.int (i / j) s.toks, .int (i % j) (s.toks + 1)], .cons ⟨_, rfl⟩ (.cons ⟨_, rfl⟩ .nil), ?_⟩
  exact ⟨_, Heap.get?_push_size s.heap rfl, rfl, 0, rfl⟩
end
end L2

namespace L2
open PySem PySem.Spec PyProof.Rows

/-! ### an instance, its attributes a map -/
structure ObjM (h : Heap) (x dx C : Addr) (mA : Str → Option Value) : Prop where
  obj : h.get? x = some (PySem.W.instObj C dx)
  ns : h.Ns1 dx mA
  ne : dx ≠ x

theorem lookIn_ns {h : Heap} {dx : Addr} {mA : Str → Option Value} (n : h.Ns1 dx mA) : ∃ od, h.get? dx = some od ∧ ∀ name, PySem.W.lookIn name od = some (mA name) := by
  obtain ⟨o, es, ep, ho, hd, hk, _, hm⟩ := n
  refine ⟨o, ho, fun name => ?_⟩
  have e := hm name
  unfold nsFind findBy at e
  rw [← Array.find?_toList] at e
  unfold PySem.W.lookIn
  rw [hd]
  dsimp only
  split
  · rename_i y q
    rw [q] at e
    exact congrArg some e
  · rename_i q
    rw [q] at e
    have a : es.toList.any (·.refKey) = false := by
      rw [List.any_eq_false]
      intro y hy
      obtain ⟨z, t, hkey⟩ := hk y (Array.mem_toList_iff.mp hy)
      simp [DictEntry.refKey, hkey]
    have a' : ¬ es.toList.any (·.refKey) = true := by rw [a]; exact Bool.false_ne_true
    rw [if_neg a']
    exact congrArg some e

theorem ObjM.look {h : Heap} {x dx C : Addr} {mA : Str → Option Value} (I : ObjM h x dx C mA) : ∃ od, PySem.W.InstAt h x (PySem.W.instObj C dx) C (some od) ∧ ∀ name, PySem.W.lookIn name od = some (mA name) :=
  let ⟨od, ho, hl⟩ := lookIn_ns I.ns
  ⟨od, ⟨I.obj, rfl, rfl, ho⟩, hl⟩

section
variable {prog : Program} {w : World} {A : Around} {E : Value → Shared → Prop} {s : Shared} {K : PySem.W.Frag} {x dx C f : Addr} {mA : Str → Option Value} {name : Str} {v : Value}

theorem get_map {expr : Bool} {Q : Value → Shared → Prop} (X : K.In s.heap) (I : ObjM s.heap x dx C mA) (hg : PySem.W.plainGet K C name = true) (hh : PySem.W.hasDictIn K C = true)
    (ha : PySem.W.findIn K (.ref C) name = some none) (hv : mA name = some v) (hv' : PySem.W.handedIn v = true) (h : Q v { s with toks := s.toks + 1 }) :
    wpAny (model prog w) A (getAttr (.ref x) name expr) Q E s := by
  obtain ⟨od, J, hl⟩ := I.look
  exact PySem.W.get_value X J (PySem.W.plainGet_of hg).1 (PySem.W.findObj_own hh ha rfl (by rw [hl, hv])) hv' h

theorem get_const {expr : Bool} {a : Value} {Q : Value → Shared → Prop} (X : K.In s.heap) (I : ObjM s.heap x dx C mA) (hg : PySem.W.plainGet K C name = true) (hh : PySem.W.hasDictIn K C = true)
    (ha : PySem.W.findIn K (.ref C) name = some (some a)) (hn : PySem.W.specialIn K a "__get__" = some none) (hc : PySem.W.copiedNames.contains name = false) (hv : mA name = none) (hv' : PySem.W.handedIn a = true)
    (h : Q a { s with toks := s.toks + 1 }) : wpAny (model prog w) A (getAttr (.ref x) name expr) Q E s := by
  obtain ⟨od, J, hl⟩ := I.look
  exact PySem.W.get_value X J (PySem.W.plainGet_of hg).1 (PySem.W.findObj_cls hh ha hn hv' hc (by rw [hl, hv])) hv' h

theorem get_meth {pl : Sem Bool} {Q : Value × List Value → Shared → Prop} (X : K.In s.heap) (I : ObjM s.heap x dx C mA) (hg : PySem.W.plainGet K C name = true)
    (hf : PySem.W.findIn K (.ref C) name = some (some (.ref f))) (ht : PySem.W.isFn K (.ref f) = true) (hv : mA name = none) (h : Q (.ref f, [.ref x]) s) :
    wpAny (model prog w) A (getMethod (.ref x) name pl) Q E s := by
  obtain ⟨od, J, hl⟩ := I.look
  exact PySem.W.method_fn X J (PySem.W.plainGet_of hg).1 (PySem.W.plainGet_of hg).2 hf (beq_iff_eq.mp ht) (by show (PySem.W.lookIn name od).map (·.isSome) = some false; rw [hl, hv]; rfl) h

theorem set_map {ns : List Str} {Q : Unit → Shared → Prop} (X : K.In s.heap) (I : ObjM s.heap x dx C mA)
    (hs : PySem.W.findIn K (.ref C) "__setattr__" = some (some (.builtin "object.__setattr__"))) (hp : PySem.W.plainOver K C = true) (ht : PySem.W.takerIn K C name = some none) (hh : PySem.W.hasDictIn K C = true)
    (hw : PySem.Within mA ns) (hsz : ns.length ≤ sizeLine)
    (h : ∀ h', ObjM h' x dx C (fun y => if y = name then some v else mA y) → Heap.SameBut dx s.heap h' → Q () { s with heap := h', toks := s.toks + 2 }) :
    wpAny (model prog w) A (setAttr (.ref x) name v) Q E s := by
  obtain ⟨od, J, hl⟩ := I.look
  refine PySem.W.set_plain X J hs (PySem.W.osa_open (s := { s with toks := s.toks + 1 }) (r := none) X J hp ht fun b => ?_)
  obtain ⟨cd, hc, hd'⟩ := PySem.W.any_some hh
  have hx : s.heap.get? x = some ⟨.ref C, some dx, .plain, #[]⟩ := I.obj
  refine wpAny_bind (wpAny_pure (wpAny_bind (wpAny_bind (wpAny_loadPart hx (wpAny_bind (PySem.W.Looks.here (s := { s with toks := s.toks + 1 }) (PySem.W.looks_clsIn X hc) ?_))))))
  rw [hd']
  refine wpAny_pure (a := some dx) (wpAny_bind (wpAny_pure (wpAny_bind ?_)))
  refine wpAny_nsSet1 (s := { s with toks := s.toks + 1 }) I.ns fun h' hn2 hs2 => ?_
  obtain ⟨oD, esD, epD, hoD, hdD, hcD⟩ := hn2.count (PySem.Within.cons name v hw)
  refine wpAny_bind (wpAny_lookBehind hoD (by rw [hdD]; exact pastItsLine_dict (Nat.le_trans hcD (by rw [List.length_cons]; omega))) ?_)
  exact wpAny_pure (h _ ⟨(hs2.2 _ (Ne.symm I.ne)).trans I.obj, hn2, I.ne⟩ hs2)

/-- C(..): the dict at the heap's end, the instance behind it; then its __init__ -/
theorem make_map {R : Result → Shared → Prop} {vs : List Value} {kw : List (Str × Value)} (X : K.In s.heap) (hm : PySem.W.makesIn K C = true)
    (hi : PySem.W.findIn K (.ref C) "__init__" = some (some (.ref f))) (hf : PySem.W.typeIn K (.ref f) = some (.type "function"))
    (h : codeAny (model prog w) (A.under (.builtin "type.__call__" ⟨.ref C :: vs, kw⟩)) (.call (.ref f) ⟨.ref (s.heap.objs.size + 1) :: vs, kw⟩) (PySem.W.InitBack (s.heap.objs.size + 1) R)
      { s with heap := (s.heap.push PySem.W.emptyDict).push (PySem.W.instObj C s.heap.objs.size) }) :
    codeAny (model prog w) A (.call (.ref C) ⟨vs, kw⟩) R s := by
  obtain ⟨hh, g, d, t, os⟩ := s
  exact PySem.W.make_core (PySem.W.makes_of X hm) (PySem.W.looks_findIn X hi) (fun self => PySem.W.bind_fn X self hf) (.inl rfl) h
/-- C() where there is no __init__ but object's -/
theorem make_map0 {R : Result → Shared → Prop} (X : K.In s.heap) (hm : PySem.W.makesIn K C = true)
    (hi : PySem.W.findIn K (.ref C) "__init__" = some (some (.builtin "object.__init__")))
    (hb : ∀ self, PySem.W.Looks (model prog w) s.heap (bindSpecial (.builtin "object.__init__") self) (.builtin "object.__init__", [self]))
    (h : codeAny (model prog w) (A.under (.builtin "type.__call__" ⟨[.ref C], []⟩)) (.call (.builtin "object.__init__") ⟨[.ref (s.heap.objs.size + 1)], []⟩) (PySem.W.InitBack (s.heap.objs.size + 1) R)
      { s with heap := (s.heap.push PySem.W.emptyDict).push (PySem.W.instObj C s.heap.objs.size) }) :
    codeAny (model prog w) A (.call (.ref C) ⟨[], []⟩) R s := by
  obtain ⟨hh, g, d, t, os⟩ := s
  exact PySem.W.make_core (PySem.W.makes_of X hm) (PySem.W.looks_findIn X hi) hb (.inr ⟨rfl, rfl⟩) h
end

/-! ### the attributes as a list of pairs -/
def putF (f : Str) (v : V) : List (Str × V) → List (Str × V)
  | [] => [(f, v)]
  | (g, x) :: r => if g = f then (g, v) :: r else (g, x) :: putF f v r
theorem lookup_putF (f g : Str) (v : V) : ∀ fs : List (Str × V), (putF f v fs).lookup g = if g = f then some v else fs.lookup g
  | [] => by
    show List.lookup g [(f, v)] = _
    by_cases h : g = f
    · have hb : (g == f) = true := beq_iff_eq.mpr h
      simp only [List.lookup, hb, if_pos h]
    · have hb : (g == f) = false := beq_eq_false_iff_ne.mpr h
      simp only [List.lookup, hb, if_neg h]
  | (k, x) :: r => by
    have ih := lookup_putF f g v r
    rw [show putF f v ((k, x) :: r) = (if k = f then (k, v) :: r else (k, x) :: putF f v r) from rfl]
    by_cases hk : k = f
    · rw [if_pos hk]
      by_cases h : g = k
      · have hb : (g == k) = true := beq_iff_eq.mpr h
        simp only [List.lookup, hb, if_pos (h.trans hk)]
      · have hb : (g == k) = false := beq_eq_false_iff_ne.mpr h
        simp only [List.lookup, hb, if_neg (fun e : g = f => h (e.trans hk.symm))]
    · rw [if_neg hk]
      by_cases h : g = k
      · have hb : (g == k) = true := beq_iff_eq.mpr h
        simp only [List.lookup, hb, if_neg (fun e : g = f => hk (h.symm.trans e))]
      · have hb : (g == k) = false := beq_eq_false_iff_ne.mpr h
        simp only [List.lookup, hb]
        exact ih
theorem keys_putF (f : Str) (v : V) : ∀ fs : List (Str × V), f ∈ (putF f v fs).map (·.1) ∧ ∀ g, g ∈ fs.map (·.1) → g ∈ (putF f v fs).map (·.1)
  | [] => ⟨by simp [putF], fun g h => by simp at h⟩
  | (k, x) :: r => by
    obtain ⟨i1, i2⟩ := keys_putF f v r
    rw [show putF f v ((k, x) :: r) = (if k = f then (k, v) :: r else (k, x) :: putF f v r) from rfl]
    by_cases hk : k = f
    · rw [if_pos hk]
      subst hk
      exact ⟨by simp, fun g h => by simpa using h⟩
    · rw [if_neg hk]
      refine ⟨?_, fun g h => ?_⟩
      · rw [List.map_cons]
        exact List.mem_cons_of_mem _ i1
      · rw [List.map_cons] at h ⊢
        rcases List.mem_cons.mp h with e | e
        · exact List.mem_cons.mpr (.inl e)
        · exact List.mem_cons_of_mem _ (i2 g e)
theorem length_putF (f : Str) (v : V) : ∀ fs : List (Str × V), (putF f v fs).length ≤ fs.length + 1
  | [] => by simp [putF]
  | (k, x) :: r => by
    have ih := length_putF f v r
    rw [show putF f v ((k, x) :: r) = (if k = f then (k, v) :: r else (k, x) :: putF f v r) from rfl]
    by_cases hk : k = f
    · rw [if_pos hk, List.length_cons, List.length_cons]; omega
    · rw [if_neg hk, List.length_cons, List.length_cons]; omega

theorem RelO.some_of {v : V} {o : Option Value} (r : RelO (some v) o) : ∃ u, o = some u ∧ RelV v u := by
  cases o with
  | none => exact (show False from r).elim
  | some u => exact ⟨u, rfl, r⟩
theorem RelO.none_of {o : Option Value} (r : RelO none o) : o = none := by
  cases o with
  | none => rfl
  | some u => exact (show False from r).elim
theorem handed_of {v : V} {u : Value} (r : RelV v u) : PySem.W.handedIn u = true := by
  cases v with
  | non => cases (show u = Value.none from r); rfl
  | bl b => cases (show u = Value.bool b from r); rfl
  | int i => obtain ⟨t, e⟩ := (show ∃ t, u = Value.int i t from r); cases e; rfl
  | str x => obtain ⟨t, e⟩ := (show ∃ t, u = Value.str x t from r); cases e; rfl
  | byt b => obtain ⟨t, e⟩ := (show ∃ t, u = Value.bytes b t from r); cases e; rfl
  | flt b => obtain ⟨t, e⟩ := (show ∃ t, u = Value.float b t from r); cases e; rfl
  | ref a => cases (show u = Value.ref a from r); rfl
  | ty n => cases (show u = Value.type n from r); rfl

section
variable {P : Program} {w : World} {H H' : Hp} {h h' : Heap} {a C dx : Addr} {fs fs' : List (Str × V)}
theorem ins_get (hok : HOk P w H h) (e : H a = some (.ins C dx fs)) : ∃ mA, ObjM h a dx C mA ∧ (∀ f, RelO (fs.lookup f) (mA f)) ∧ PySem.Within mA (fs.map (·.1)) ∧ fs.length ≤ 1000 ∧ H dx = some (.own a) := by
  obtain ⟨d, z, ne, ob, mA, n, r, q⟩ := (show ObjOk P w H h a (.ins C dx fs) from hok a _ e)
  exact ⟨mA, ⟨ob, n, ne⟩, r, q, z, d⟩
end

/-! ### what of the text a class must have -/
structure Cls (K : PySem.W.Frag) (C : Addr) : Prop where
  pg : PySem.W.plainGet K C Str.empty = true
  hd : PySem.W.hasDictIn K C = true
  po : PySem.W.plainOver K C = true
  sa : PySem.W.findIn K (.ref C) "__setattr__" = some (some (.builtin "object.__setattr__"))
theorem Cls.get {K : PySem.W.Frag} {C : Addr} (c : Cls K C) (f : Str) : PySem.W.plainGet K C f = true := c.pg
/-- no class of it has the name -/
def NoAttr (K : PySem.W.Frag) (C : Addr) (f : Str) : Prop := PySem.W.findIn K (.ref C) f = some none
theorem NoAttr.taker {K : PySem.W.Frag} {C : Addr} {f : Str} (n : NoAttr K C f) : PySem.W.takerIn K C f = some none := by
  unfold PySem.W.takerIn
  rw [show PySem.W.findIn K (.ref C) f = some none from n]
  rfl
/-- a constant of the class -/
structure Con (K : PySem.W.Frag) (C : Addr) (f : Str) (v : V) (u : Value) : Prop where
  at_ : PySem.W.findIn K (.ref C) f = some (some u)
  rel : RelV v u
  get : PySem.W.specialIn K u "__get__" = some none
  cp : PySem.W.copiedNames.contains f = false
/-- a method: a plain def of the class or of one above it -/
structure Meth (K : PySem.W.Frag) (C : Addr) (m : Str) (f : Addr) : Prop where
  at_ : PySem.W.findIn K (.ref C) m = some (some (.ref f))
  fn : PySem.W.isFn K (.ref f) = true
  kp : PySem.W.keepIn K (.ref f) = true

section
variable {X : Cx} {pins : List (Addr × Obj)} {σ : St} {H : Hp} {s : Shared} {a C dx : Addr} {fs : List (Str × V)} {f : Str} {v : V} {A : Around} {E : Value → Shared → Prop}

theorem getattr_ok {b : Bool} {Q : Value → Shared → Prop} (I : Inv X pins σ H s) (e : H a = some (.ins C dx fs)) (c : Cls X.K C) (n : NoAttr X.K C f) (l : fs.lookup f = some v)
    (h : ∀ u s', Inv X pins σ H s' → RelV v u → Q u s') : wpAny (model X.prog X.w) A (getAttr (.ref a) f b) Q E s := by
  obtain ⟨mA, O, r, _, _, _⟩ := ins_get I.hok e
  obtain ⟨u, hu, ru⟩ := RelO.some_of (v := v) (o := mA f) (by rw [← l]; exact r f)
  exact get_map I.kIn O (c.get f) c.hd n hu (handed_of ru) (h u _ (I.tok _) ru)

theorem getcon_ok {b : Bool} {u : Value} {Q : Value → Shared → Prop} (I : Inv X pins σ H s) (e : H a = some (.ins C dx fs)) (c : Cls X.K C) (k : Con X.K C f v u) (l : fs.lookup f = none)
    (h : ∀ s', Inv X pins σ H s' → Q u s') : wpAny (model X.prog X.w) A (getAttr (.ref a) f b) Q E s := by
  obtain ⟨mA, O, r, _, _, _⟩ := ins_get I.hok e
  have hn : mA f = none := RelO.none_of (by rw [← l]; exact r f)
  exact get_const I.kIn O (c.get f) c.hd k.at_ k.get k.cp hn (handed_of k.rel) (h _ (I.tok _))

theorem getmeth_ok {m : Str} {g : Addr} {pl : Sem Bool} {Q : Value × List Value → Shared → Prop} (I : Inv X pins σ H s) (e : H a = some (.ins C dx fs)) (c : Cls X.K C) (k : Meth X.K C m g) (l : fs.lookup m = none)
    (h : Q (.ref g, [.ref a]) s) : wpAny (model X.prog X.w) A (getMethod (.ref a) m pl) Q E s := by
  obtain ⟨mA, O, r, _, _, _⟩ := ins_get I.hok e
  have hn : mA m = none := RelO.none_of (by rw [← l]; exact r m)
  exact get_meth I.kIn O (c.get m) k.at_ k.fn hn h

theorem setattr_ok {y : V} {u : Value} {Q : Unit → Shared → Prop} (I : Inv X pins σ H s) (e : H a = some (.ins C dx fs)) (c : Cls X.K C) (n : NoAttr X.K C f) (hl : fs.length < 1000) (ry : RelV y u)
    (h : ∀ s', Inv X pins σ (upd H a (.ins C dx (putF f y fs))) s' → Q () s') : wpAny (model X.prog X.w) A (setAttr (.ref a) f u) Q E s := by
  obtain ⟨mA, O, r, wi, _, ho⟩ := ins_get I.hok e
  have hz : (fs.map (·.1)).length ≤ sizeLine := by rw [List.length_map, sizeLine_eq]; omega
  refine set_map I.kIn O c.sa c.po n.taker c.hd wi hz fun h' O' sb => h _ ?_
  have hd : ∃ o, h'.get? dx = some o := let ⟨o, _, _, e', _⟩ := O'.ns; ⟨o, e'⟩
  refine I.write (x := a) (e := dx) (by rw [e]; exact True.intro) (.inr ho) (fun b q hb z => (sb.2 b hb).trans z) hd ?_
  refine ⟨by rw [upd_ne O.ne]; exact ho, ?_, O.ne, O'.obj, _, O'.ns, fun g => ?_, fun g hg => ?_⟩
  · have := length_putF f y fs; omega
  · show RelO ((putF f y fs).lookup g) (if g = f then some u else mA g)
    rw [lookup_putF]
    by_cases q : g = f
    · rw [if_pos q, if_pos q]; exact ry
    · rw [if_neg q, if_neg q]; exact r g
  · by_cases q : g = f
    · rw [q]; exact (keys_putF f y fs).1
    · refine (keys_putF f y fs).2 g (wi g fun z => hg ?_)
      show (if g = f then some u else mA g) = none
      rw [if_neg q]; exact z

/-- a new instance, tracked, without attributes -/
theorem Inv.made (I : Inv X pins σ H s) : Inv X pins σ (upd (upd H s.heap.objs.size (.own (s.heap.objs.size + 1))) (s.heap.objs.size + 1) (.ins C s.heap.objs.size []))
    { s with heap := (s.heap.push PySem.W.emptyDict).push (PySem.W.instObj C s.heap.objs.size) } := by
  have e1 : (s.heap.push PySem.W.emptyDict).get? s.heap.objs.size = some PySem.W.emptyDict := Heap.get?_push_size s.heap rfl
  have e2 : ((s.heap.push PySem.W.emptyDict).push (PySem.W.instObj C s.heap.objs.size)).get? (s.heap.objs.size + 1) = some (PySem.W.instObj C s.heap.objs.size) := by
    have := Heap.get?_push_size (s.heap.push PySem.W.emptyDict) (o := PySem.W.instObj C s.heap.objs.size) rfl
    rwa [Heap.size_push] at this
  have e3 : (s.heap.push PySem.W.emptyDict).Ns s.heap.objs.size (fun _ => none) := ⟨PySem.W.emptyDict, #[], _, e1, rfl, (fun e he => absurd he (by simp)), fun _ => rfl⟩
  have I1 := I.laid (a := s.heap.objs.size) (o := .own (s.heap.objs.size + 1)) (h' := s.heap.push PySem.W.emptyDict) (t' := s.toks) (fun b u q => Heap.get?_push_of_some _ q) (Nat.le_refl _) ⟨_, e1⟩
  refine I1.laid (a := s.heap.objs.size + 1) (o := .ins C s.heap.objs.size []) (t' := s.toks) (fun b u q => Heap.get?_push_of_some _ q) (Nat.le_of_eq (Heap.size_push _ _)) ?_
  have ne : s.heap.objs.size ≠ s.heap.objs.size + 1 := Nat.ne_of_lt (Nat.lt_succ_self _)
  refine ⟨by rw [upd_ne ne, upd_same], Nat.zero_le _, ne, e2, fun _ => none, (Heap.Ns1.of_empty e3).at fun o q => Heap.get?_push_of_some _ q, fun _ => True.intro, fun y hy => absurd rfl hy⟩

/-- e.f where nothing but the object is asked: through attributeBase (super) and the last hold -/
theorem attr_of {prog : Program} {w : World} {env : Env} {e : Expr} {f : Str} {pos : Pos} {s : Shared} {Q : Value → Shared → Prop} (hb : attributeBase e f env (eval e env) = eval e env)
    (h : wpAny (model prog w) A (eval e env) (fun o s₁ => wpAny (model prog w) A (getAttr o f true) Q E s₁) E s) : wpAny (model prog w) A (eval (.Attribute e f pos) env) Q E s :=
  Attribute_any_ h (by rw [arm_eval_Attribute, hb])
end

/-! ### readings and rules -/
/-- e.f, an attribute of the instance -/
def tFld (K : PySem.W.Frag) (ta : TE) (f : Str) : TE := fun σ H Q => ta σ H fun x H1 => ∃ a C dx fs v, x = .ref a ∧ H1 a = some (.ins C dx fs) ∧ Cls K C ∧ NoAttr K C f ∧ fs.lookup f = some v ∧ Q v H1
/-- e.f, a constant of the class -/
def tCon (K : PySem.W.Frag) (ta : TE) (f : Str) : TE := fun σ H Q => ta σ H fun x H1 => ∃ a C dx fs v u, x = .ref a ∧ H1 a = some (.ins C dx fs) ∧ Cls K C ∧ Con K C f v u ∧ fs.lookup f = none ∧ Q v H1
/-- e.f = value -/
def sFld (K : PySem.W.Frag) (ta tv : TE) (f : Str) : TS := fun D σ H => tv σ H fun y H1 => ta σ H1 fun x H2 => ∃ a C dx fs, x = .ref a ∧ H2 a = some (.ins C dx fs) ∧ Cls K C ∧ NoAttr K C f ∧ fs.length < 1000 ∧
  D.nx σ (upd H2 a (.ins C dx (putF f y fs)))
/-- an augmented operator on two values -/
def InOp (X : Cx) (op : Operator) (rd : V → V → Hp → VK → Prop) : Prop :=
  ∀ (pins : List (Addr × Obj)) (s : Shared) (σ : St) (H : Hp) (x y : V) (u v : Value) (Q : VK), Inv X pins σ H s → RelV x u → RelV y v → rd x y H Q → wpAny (model X.prog X.w) X.A (inplaceOp op u v) (EP X pins σ Q) X.xe s
/-- e.f op= value -/
def sFldAug (K : PySem.W.Frag) (ta tv : TE) (rd : V → V → Hp → VK → Prop) (f : Str) : TS := fun D σ H => ta σ H fun x H1 => ∃ a C dx fs v, x = .ref a ∧ H1 a = some (.ins C dx fs) ∧ Cls K C ∧ NoAttr K C f ∧ fs.lookup f = some v ∧
  tv σ H1 fun y H2 => rd v y H2 fun z H3 => ∃ dx' fs', H3 a = some (.ins C dx' fs') ∧ fs'.length < 1000 ∧ D.nx σ (upd H3 a (.ins C dx' (putF f z fs')))

section
variable {X : Cx} {o e value : Expr} {f : Str} {pos pos' tpos : Pos} {ta tv : TE}
theorem pe_fld (he : PE X e ta) (hb : attributeBase e f X.env (eval e X.env) = eval e X.env) : PE X (.Attribute e f pos) (tFld X.K ta f) := by
  intro pins s σ H Q I h
  refine attr_of hb (thn (he pins s σ H _ I h) fun u s1 ⟨x, H1, I1, rx, a, C, dx, fs, v, ex, ea, c, n, l, q⟩ => ?_)
  subst ex
  obtain rfl : u = Value.ref a := rx
  exact getattr_ok I1 ea c n l fun u' s2 I2 ru => ⟨v, H1, I2, ru, q⟩
theorem pe_con (he : PE X e ta) (hb : attributeBase e f X.env (eval e X.env) = eval e X.env) : PE X (.Attribute e f pos) (tCon X.K ta f) := by
  intro pins s σ H Q I h
  refine attr_of hb (thn (he pins s σ H _ I h) fun u s1 ⟨x, H1, I1, rx, a, C, dx, fs, v, u0, ex, ea, c, k, l, q⟩ => ?_)
  subst ex
  obtain rfl : u = Value.ref a := rx
  exact getcon_ok I1 ea c k l fun s2 I2 => ⟨v, H1, I2, k.rel, q⟩
theorem ps_fld (ha : PE X o ta) (hv : PE X value tv) (hs : swapsWith value (some (.Attribute o f pos')) pos.line X.env = pure false) : PS X (.Assign [.Attribute o f pos'] value pos) (sFld X.K ta tv f) := by
  intro pins s σ H D I h
  refine plainObj_wpAny_Assign_Attribute (thn (hv pins s σ H _ I h) fun u s1 ⟨y, H1, I1, ry, q⟩ => thn (ha pins s1 σ H1 _ I1 q) fun ov s2 ⟨x, H2, I2, rx, a, C, dx, fs, ex, ea, c, n, l, q2⟩ => ?_) hs
  subst ex
  obtain rfl : ov = Value.ref a := rx
  exact setattr_ok I2 ea c n l ry fun s3 I3 => ⟨σ, _, I3, q2⟩
theorem ps_fldaug {op : Operator} {rd : V → V → Hp → VK → Prop} (ha : PE X o ta) (hv : PE X value tv) (hop : InOp X op rd) : PS X (.AugAssign (.Attribute o f tpos) op value pos) (sFldAug X.K ta tv rd f) := by
  intro pins s σ H D I h
  refine wpAny_AugAssign_AttributeAny (thn (ha pins s σ H _ I h) fun ov s1 ⟨x, H1, I1, rx, a, C, dx, fs, v, ex, ea, c, n, l, q⟩ => ?_)
  subst ex
  obtain rfl : ov = Value.ref a := rx
  refine getattr_ok I1 ea c n l fun u s2 I2 ru => thn (hv pins s2 σ H1 _ I2 q) fun w3 s3 ⟨y, H2, I3, ry, q3⟩ => thn (hop pins s3 σ H2 v y u w3 _ I3 ru ry q3) fun w4 s4 ⟨z, H3, I4, rz, dx', fs', ea', l', q4⟩ => ?_
  exact setattr_ok I4 ea' c n l' rz fun s5 I5 => ⟨σ, _, I5, q4⟩
def rAdd : V → V → Hp → VK → Prop := fun x y H Q => ∃ i j, x = .int i ∧ y = .int j ∧ Q (.int (i + j)) H
def rSub : V → V → Hp → VK → Prop := fun x y H Q => ∃ i j, x = .int i ∧ y = .int j ∧ Q (.int (i - j)) H
theorem in_add : InOp X .Add rAdd := by
  rintro pins s σ H x y u v Q I rx ry ⟨i, j, rfl, rfl, q⟩
  obtain ⟨t, rfl⟩ := (show ∃ t, u = Value.int i t from rx)
  obtain ⟨t', rfl⟩ := (show ∃ t', v = Value.int j t' from ry)
  exact PyProof.Rows.iadd_int ⟨.int (i + j), H, I.tok _, ⟨_, rfl⟩, q⟩
theorem in_sub : InOp X .Sub rSub := by
  rintro pins s σ H x y u v Q I rx ry ⟨i, j, rfl, rfl, q⟩
  obtain ⟨t, rfl⟩ := (show ∃ t, u = Value.int i t from rx)
  obtain ⟨t', rfl⟩ := (show ∃ t', v = Value.int j t' from ry)
  exact PyProof.Rows.isub_int ⟨.int (i - j), H, I.tok _, ⟨_, rfl⟩, q⟩

/-- what is between an instance and its method: the tree of a method call -/
theorem methcall_of {pl : Sem Bool} {m : Str} {apos : Pos} {args : List Expr} {pins : List (Addr × Obj)} {s : Shared} {σ : St} {H : Hp} {Q : Value → Shared → Prop} {te : TE} (he : PE X e te) (I : Inv X pins σ H s)
    (h : te σ H fun x H1 => ∃ a C dx fs g, x = .ref a ∧ H1 a = some (.ins C dx fs) ∧ Cls X.K C ∧ Meth X.K C m g ∧ fs.lookup m = none ∧
      ∀ s1, Inv X pins σ H1 s1 → wpAny (model X.prog X.w) X.A (callWith pos (.ref g) [.ref a] (backTo pos (starEach args X.env)) (backToKw pos (keywordEach [] X.env))) Q X.xe s1)
    (ht : eval (.Call (.Attribute e m apos) args [] pos) X.env = (do
      let ov ← eval e X.env
      standAt apos.atName
      let (f, first) ← holding [ov] (getMethod ov m pl)
      callWith pos f first (backTo pos (starEach args X.env)) (backToKw pos (keywordEach [] X.env)))) :
    wpAny (model X.prog X.w) X.A (eval (.Call (.Attribute e m apos) args [] pos) X.env) Q X.xe s := by
  refine PySem.W.methodCall_KW (pl := pl) (thn (he pins s σ H _ I h) fun u s1 ⟨x, H1, I1, rx, a, C, dx, fs, g, ex, ea, c, k, l, q⟩ => ?_) ht
  subst ex
  obtain rfl : u = Value.ref a := rx
  exact getmeth_ok I1 ea c k l (q s1 I1)
end

/-! ### isinstance -/
section
variable {X : Cx} {pins : List (Addr × Obj)} {σ : St} {H : Hp} {s : Shared} {A : Around} {E : Value → Shared → Prop} {Q : Value → Shared → Prop} {c : Value} {b : Bool}
/-- the type of a value, as the fragment's deciders take it; for an instance its class -/
inductive TyOf (K : PySem.W.Frag) (H : Hp) : V → Value → Prop where
  | non : TyOf K H .non (.type "NoneType")
  | bl (x : Bool) : TyOf K H (.bl x) (.type "bool")
  | int (i : Int) : TyOf K H (.int i) (.type "int")
  | str (x : Str) : TyOf K H (.str x) (.type "str")
  | flt (x : UInt64) : TyOf K H (.flt x) (.type "float")
  | lst {a : Addr} {xs : List V} (e : H a = some (.lst xs)) : TyOf K H (.ref a) (.type "list")
  | frz {a : Addr} {o : Obj} {xs : List V} (e : H a = some (.frz o (.lst xs))) : TyOf K H (.ref a) (.type "list")
  | tup {a : Addr} {xs : List V} (e : H a = some (.tup xs)) : TyOf K H (.ref a) (.type "tuple")
  | dK {a : Addr} {kvs : List (Key × V)} (e : H a = some (.dK kvs)) : TyOf K H (.ref a) (.type "dict")
  | dT {a : Addr} {kvs : List (List Key × V)} (e : H a = some (.dT kvs)) : TyOf K H (.ref a) (.type "dict")
  | ins {a C dx : Addr} {fs : List (Str × V)} (e : H a = some (.ins C dx fs)) (cl : Cls K C) (ha : PySem.W.findIn K (.ref C) "__class__" = some (some (.builtin "object.__class__")))
      (hn : PySem.W.specialIn K (.builtin "object.__class__") "__get__" = some (some (.builtin "getset_descriptor.__get__"))) (htk : PySem.W.takesIn K (.builtin "object.__class__") = some true)
      (hm : PySem.W.mroIn K C (.type "object") = some true) : TyOf K H (.ref a) (.ref C)
/-- isinstance(x, c) for one class c, a built-in or an own one: kitOne's answer -/
theorem isinst_ok {x : V} {u t : Value} (I : Inv X pins σ H s) (rx : RelV x u) (ty : TyOf X.K H x t) (e : PySem.W.kitOne X.K t c = some b) (h : ∀ tk, Q (.bool b) { s with toks := tk }) :
    wpAny (model X.prog X.w) A (call (.builtin "isinstance") [u, c]) Q E s := by
  cases ty with
  | non => cases (show u = Value.none from rx); exact PySem.W.kia_one PySem.W.kitx_none I.kIn True.intro e (fun z => nomatch z) h
  | bl y => cases (show u = Value.bool y from rx); exact PySem.W.kia_one PySem.W.kitx_bool I.kIn True.intro e (fun z => nomatch z) h
  | int i => obtain ⟨t, q⟩ := (show ∃ t, u = Value.int i t from rx); cases q; exact PySem.W.kia_one PySem.W.kitx_int I.kIn True.intro e (fun z => nomatch z) h
  | str y => obtain ⟨t, q⟩ := (show ∃ t, u = Value.str y t from rx); cases q; exact PySem.W.kia_one PySem.W.kitx_str I.kIn True.intro e (fun z => nomatch z) h
  | flt y => obtain ⟨t, q⟩ := (show ∃ t, u = Value.float y t from rx); cases q; exact PySem.W.kia_one PySem.W.kitx_float I.kIn True.intro e (fun z => nomatch z) h
  | @lst a xs ea =>
    cases (show u = Value.ref a from rx)
    obtain ⟨_, _, n, _, h1⟩ := (show ObjOk X.prog X.w H s.heap a (.lst xs) from I.hok a _ ea)
    exact PySem.W.kia_one PySem.W.kitx_list I.kIn ⟨_, h1, rfl⟩ e (fun z => nomatch z) h
  | @frz a ob xs ea =>
    cases (show u = Value.ref a from rx)
    obtain ⟨_, _, _, n, _, h1⟩ := (show ObjOk X.prog X.w H s.heap a (.frz ob (.lst xs)) from I.hok a _ ea)
    exact PySem.W.kia_one PySem.W.kitx_list I.kIn ⟨_, h1, rfl⟩ e (fun z => nomatch z) h
  | @tup a xs ea =>
    cases (show u = Value.ref a from rx)
    obtain ⟨_, _, _, p⟩ := (show ObjOk X.prog X.w H s.heap a (.tup xs) from I.hok a _ ea)
    obtain ⟨o, h1, h2, _⟩ := p
    exact PySem.W.kia_one PySem.W.kitx_tuple I.kIn ⟨o, h1, h2⟩ e (fun z => nomatch z) h
  | @dK a kvs ea =>
    cases (show u = Value.ref a from rx)
    obtain ⟨_, _, vs, _, p⟩ := (show ObjOk X.prog X.w H s.heap a (.dK kvs) from I.hok a _ ea)
    obtain ⟨o, es, ep, h1, h2, _⟩ := p
    exact PySem.W.kia_one PySem.W.kitx_dict I.kIn ⟨o, h1, h2.1⟩ e (fun z => nomatch z) h
  | @dT a kvs ea =>
    cases (show u = Value.ref a from rx)
    obtain ⟨_, _, xs, _, o, es, ep, h1, h2, _⟩ := (show ObjOk X.prog X.w H s.heap a (.dT kvs) from I.hok a _ ea)
    exact PySem.W.kia_one PySem.W.kitx_dict I.kIn ⟨o, h1, h2.1⟩ e (fun z => nomatch z) h
  | @ins a C dx fs ea cl ha hn htk hm =>
    cases (show u = Value.ref a from rx)
    obtain ⟨mA, O, _⟩ := ins_get I.hok ea
    obtain ⟨od, J, _⟩ := O.look
    exact PySem.W.kia_one (PySem.W.kitx_own (cl.get _) cl.hd ha hn htk hm) I.kIn J e (fun z => nomatch z) h
end
end L2

namespace L2
open PySem PySem.Spec PyProof.Rows

/-! ### room -/
structure Room (k : Nat) (A : Around) : Prop where
  hd : A.handled = none
  dp : A.depth + 3 * k + 5 < recursionLimit
  un : A.units + 16 * k + 200 < cLine
theorem Room.mono {j k : Nat} {A : Around} (r : Room k A) (h : j ≤ k) : Room j A := ⟨r.hd, by have := r.dp; omega, by have := r.un; omega⟩
theorem Room.deeper {k : Nat} {A : Around} (r : Room (k + 1) A) (env : Env) : Room k (A.deeper env) :=
  ⟨r.hd, by have := r.dp; show A.depth + 1 + 3 * k + 5 < _; omega, by have := r.un; show A.units + 3 + 16 * k + 200 < _; omega⟩
theorem Room.in1 {k : Nat} {A : Around} (r : Room (k + 1) A) : Room k A.in1 :=
  ⟨r.hd, by have := r.dp; show A.depth + 3 * k + 5 < _; omega, by have := r.un; show A.units + 1 + 16 * k + 200 < _; omega⟩
theorem make_depth {A : Around} {C : Addr} {us : List Value} {kw : List (Str × Value)} : (A.under (.builtin "type.__call__" ⟨.ref C :: us, kw⟩)).depth = A.depth + 1 := by
  first | rfl | simp [Around.under, Code.weight, Code.isCreation, Code.isGuard, Code.isCaller, Code.frames, Code.isFrame, guardIds]
theorem make_units {A : Around} {C : Addr} {us : List Value} {kw : List (Str × Value)} : (A.under (.builtin "type.__call__" ⟨.ref C :: us, kw⟩)).units = A.units + 1 := by
  first | rfl | simp [Around.under, Code.cUnits, Code.frames, Code.isFrame]
theorem Room.make {k : Nat} {A : Around} (r : Room (k + 1) A) (C : Addr) (us : List Value) (kw : List (Str × Value)) : Room k (A.under (.builtin "type.__call__" ⟨.ref C :: us, kw⟩)) :=
  ⟨r.hd, by have := r.dp; rw [make_depth]; omega, by have := r.un; rw [make_units]; omega⟩
theorem Room.depth {k : Nat} {A : Around} (r : Room k A) : A.depth < recursionLimit := by have := r.dp; omega
theorem Room.units {k : Nat} {A : Around} (r : Room k A) : A.units + 64 < cLine := by have := r.un; omega
theorem Room.units0 {k : Nat} {A : Around} (r : Room k A) : A.units < cLine := by have := r.un; omega

/-! ### argument lists and displays -/
def tNil : TA := fun _ H Q => Q [] H
def tCons (ta : TE) (tr : TA) : TA := fun σ H Q => ta σ H fun x H1 => tr σ H1 fun xs H2 => Q (x :: xs) H2
section
variable {X : Cx} {e : Expr} {es : List Expr} {te : TE} {t : TA} {pos : Pos}
theorem pa_nil : PA X [] tNil := fun _ _ _ _ H Q I h => Calls.spliced_nil ⟨[], H, I, .nil, h⟩
theorem pa_cons (ha : PE X e te) (hr : PA X es t) (hs : starEach (e :: es) X.env = (false, eval e X.env) :: starEach es X.env := by rfl) : PA X (e :: es) (tCons te t) := by
  intro pos pins s σ H Q I h
  rw [hs]
  show wpAny _ _ (spliced ((false, eval e X.env) :: backTo pos (starEach es X.env))) _ _ s
  refine Calls.spliced_cons (thn (ha pins s σ H _ I h) fun u s1 ⟨x, H1, I1, r1, q1⟩ => ?_)
  exact thn (hr pos pins s1 σ H1 _ I1 q1) fun us s2 ⟨xs, H2, I2, r2, q2⟩ => ⟨x :: xs, H2, I2, .cons r1 r2, q2⟩

/-- a tuple, a list of written items -/
def tTup (t : TA) : TE := fun σ H Q => t σ H fun xs H1 => xs.length ≤ sizeLine ∧ ∀ p, H1 p = none → Q (.ref p) (upd H1 p (.tup xs))
def tLst (t : TA) : TE := fun σ H Q => t σ H fun xs H1 => xs.length ≤ sizeLine ∧ ∀ p, H1 p = none → Q (.ref p) (upd H1 p (.lst xs))
theorem pe_tup {x1} (h : PA X es t) : PE X (.Tuple es x1 pos) (tTup t) := by
  intro pins s σ H Q I hq
  refine wpAny_Tuple_spliced (thn (h pos pins s σ H _ I hq) fun us s1 ⟨xs, H1, I1, r, z, q⟩ => ⟨by rw [← r.length]; exact z, ?_⟩)
  have hf : H1 s1.heap.objs.size = none := I1.hok.fresh (Nat.le_refl _)
  refine ⟨.ref s1.heap.objs.size, upd H1 s1.heap.objs.size (.tup xs), I1.laid (t' := s1.toks) (fun b u e => Heap.get?_push_of_some _ e) (Nat.le_refl _) ?_, rfl, q _ hf⟩
  exact ⟨z, us, r, ⟨_, Heap.get?_push_size _ rfl, rfl, _, rfl⟩⟩
theorem pe_lst (h : PA X es t) : PE X (.List es pos) (tLst t) := by
  intro pins s σ H Q I hq
  refine wpAny_List_spliced (thn (h pos pins s σ H _ I hq) fun us s1 ⟨xs, H1, I1, r, z, q⟩ => ⟨by rw [← r.length]; exact z, ?_⟩)
  have hf : H1 s1.heap.objs.size = none := I1.hok.fresh (Nat.le_refl _)
  refine ⟨.ref s1.heap.objs.size, upd H1 s1.heap.objs.size (.lst xs), I1.laid (t' := s1.toks) (fun b u e => Heap.get?_push_of_some _ e) (Nat.le_refl _) ?_, rfl, q _ hf⟩
  exact ⟨z, us, 0, r, Heap.get?_push_size _ rfl⟩
end

/-! ### what a def promises -/
/-- a def's promise: the bound arguments in the parameters' order, the heap, the wanted end, the wanted exception -/
abbrev Sp := List V → Hp → VK → XK → Prop
/-- how an exception lies behind a call (file 08 gives it): the callers' frames, abstract heap and state ahead of the call, the wish, the exception, the state -/
abbrev CXT := List Env → Hp → Shared → XK → Value → Shared → Prop

/-- the state at a call -/
structure Env0 (P : Program) (w : World) (K : PySem.W.Frag) (mg : Str → Option Value) (base : Heap) (A : Around) (outer : List Env) (s : Shared) (H : Hp) : Prop where
  frames : A.frames = some outer
  mod : Mod K mg base
  bs : ∀ b o, base.get? b = some o → s.heap.get? b = some o ∧ H b = none
  bsz : base.objs.size ≤ s.heap.objs.size
  funs : s.heap.FunFrames base outer
  frf : ∀ b ∈ frs outer, H b = none
  hok : HOk P w H s.heap
  bare : AllBare s.gens
/-- a call's end -/
def CE (outer : List Env) (P : Program) (w : World) (H : Hp) (s : Shared) (Q : VK) (u : Value) (s' : Shared) : Prop :=
  ∃ v H', s'.os = s.os ∧ AllBare s'.gens ∧ Un (frs outer) [] H H' s.heap s'.heap ∧ HOk P w H' s'.heap ∧ RelV v u ∧ Q v H'
def CR (CX : CXT) (outer : List Env) (P : Program) (w : World) (H : Hp) (s : Shared) (Q : VK) (E : XK) (r : Result) (s' : Shared) : Prop :=
  match r with
  | .ok (.ret u) => CE outer P w H s Q u s'
  | .ok _ => False
  | .error e => CX outer H s E e s'
structure FnOk (P : Program) (w : World) (K : PySem.W.Frag) (mg : Str → Option Value) (base : Heap) (CX : CXT) (k : Nat) (f : Addr) (fd : FuncData) (ps : List Str) (sp : Sp) : Prop where
  len : ∀ vs H Q E, sp vs H Q E → vs.length = ps.length
  run : ∀ (A : Around) (outer : List Env) (s : Shared) (H : Hp) (args : Args) (us : List Value) (vs : List V) (Q : VK) (E : XK), Room k A → Env0 P w K mg base A outer s H → BindsTo s fd args (ps.zip us) → Vals vs us → sp vs H Q E →
    codeAny (model P w) A (.call (.ref f) args) (CR CX outer P w H s Q E) s
theorem FnOk.mono {P : Program} {w : World} {K : PySem.W.Frag} {mg : Str → Option Value} {base : Heap} {CX : CXT} {j k : Nat} {f : Addr} {fd : FuncData} {ps : List Str} {sp : Sp} (F : FnOk P w K mg base CX j f fd ps sp) (h : j ≤ k) :
    FnOk P w K mg base CX k f fd ps sp := ⟨F.len, fun A outer s H args us vs Q E hr => F.run A outer s H args us vs Q E (hr.mono h)⟩
/-- a weaker promise -/
theorem FnOk.imp {P : Program} {w : World} {K : PySem.W.Frag} {mg : Str → Option Value} {base : Heap} {CX : CXT} {k : Nat} {f : Addr} {fd : FuncData} {ps : List Str} {sp sp' : Sp} (F : FnOk P w K mg base CX k f fd ps sp)
    (h : ∀ vs H Q E, sp' vs H Q E → sp vs H Q E) : FnOk P w K mg base CX k f fd ps sp' :=
  ⟨fun vs H Q E q => F.len vs H Q E (h _ _ _ _ q), fun A outer s H args us vs Q E hr he hb hv hs => F.run A outer s H args us vs Q E hr he hb hv (h _ _ _ _ hs)⟩

theorem Env0.make {P : Program} {w : World} {K : PySem.W.Frag} {mg : Str → Option Value} {base : Heap} {A : Around} {outer : List Env} {s : Shared} {H : Hp} (e : Env0 P w K mg base A outer s H) (C : Addr) (us : List Value) (kw : List (Str × Value)) :
    Env0 P w K mg base (A.under (.builtin "type.__call__" ⟨.ref C :: us, kw⟩)) outer s H := ⟨by first | exact e.frames | (simpa [Around.under, Code.envs, Code.isFrame, pushEnvs] using e.frames), e.mod, e.bs, e.bsz, e.funs, e.frf, e.hok, e.bare⟩
theorem Env0.in1 {P : Program} {w : World} {K : PySem.W.Frag} {mg : Str → Option Value} {base : Heap} {A : Around} {outer : List Env} {s : Shared} {H : Hp} (e : Env0 P w K mg base A outer s H) :
    Env0 P w K mg base A.in1 outer s H := ⟨e.frames, e.mod, e.bs, e.bsz, e.funs, e.frf, e.hok, e.bare⟩

section
variable {X : Cx} {pins : List (Addr × Obj)} {σ : St} {H : Hp} {s s' : Shared}
/-- from a body: what a callee wants -/
theorem Inv.env0 (I : Inv X pins σ H s) : Env0 X.prog X.w X.K X.mg X.base X.A X.stack s H :=
  ⟨I.ok.frames, I.ok.mod, I.bs, Nat.le_trans I.ok.bsz I.sz, I.stack, I.stkFree, I.hok, I.bare⟩
/-- behind a call -/
theorem Inv.after {Q : VK} {u : Value} (I : Inv X pins σ H s) (h : CE X.stack X.prog X.w H s Q u s') : EP X pins σ Q u s' := by
  obtain ⟨v, H', os, bare, un, hok, r, q⟩ := h
  obtain ⟨hh, g, d, t, os'⟩ := s'
  obtain rfl : os' = s.os := os
  exact ⟨v, H', I.call (h' := hh) (g' := g) (d' := d) (t' := t) (ch := []) un hok bare (fun b z => absurd z (by simp)), r, q⟩
end

/-! ### calls -/
/-- f(..): the written arguments, then the defaults dvs; E: what is wanted of an exception -/
def tCall (sp : Sp) (dvs : List V) (E : XK) (t : TA) : TE := fun σ H Q => t σ H fun vs H1 => sp (vs ++ dvs) H1 Q E
/-- o.m(..) of an instance of the class at C -/
def tMeth (C : Addr) (m : Str) (sp : Sp) (dvs : List V) (E : XK) (ta : TE) (t : TA) : TE := fun σ H Q => ta σ H fun x H1 => ∃ a dx fs, x = .ref a ∧ H1 a = some (.ins C dx fs) ∧ fs.lookup m = none ∧
  t σ H1 fun vs H2 => sp (x :: (vs ++ dvs)) H2 Q E
/-- C(..): a new instance and its dict, then __init__ -/
def tMake (C : Addr) (sp : Sp) (dvs : List V) (E : XK) (t : TA) : TE := fun σ H Q => t σ H fun vs H1 => ∀ x dx, H1 x = none → H1 dx = none → dx ≠ x →
  sp (.ref x :: (vs ++ dvs)) (upd (upd H1 dx (.own x)) x (.ins C dx [])) (fun v H2 => v = .non ∧ Q (.ref x) H2) E

/-- how the parameters are bound: us the positional arguments, kw the keywords' values by name, ds the defaults that fill up -/
def Binds (K : PySem.W.Frag) (fd : FuncData) (ps : List Str) (ds : List Value) : Prop :=
  ∀ (s : Shared) (us : List Value), K.In s.heap → (us ++ ds).length = ps.length → BindsTo s fd ⟨us, []⟩ (ps.zip (us ++ ds))
/-- every parameter is given -/
theorem Binds.all {K : PySem.W.Frag} {fd : FuncData} {ps : List Str} (h : ∀ us : List Value, us.length = ps.length → bindArgs fd ⟨us, []⟩ = pure (ps.zip us)) : Binds K fd ps [] := fun s us _ hl => by
  rw [List.append_nil] at hl ⊢
  exact .of_eq (h us hl)

/-- an exception of a callee reaches what this body wants of exceptions -/
def Passes (CX : CXT) (X : Cx) (E : XK) : Prop := ∀ (pins : List (Addr × Obj)) (σ : St) (H : Hp) (s : Shared) (e : Value) (s' : Shared), Inv X pins σ H s → CX X.stack H s E e s' → X.xe e s'

section
variable {X : Cx} {CX : CXT} {k : Nat} {f C : Addr} {fd : FuncData} {ps : List Str} {sp : Sp} {dvs : List V} {ds : List Value} {E : XK} {x m : Str} {p pos apos : Pos} {e o : Expr} {es : List Expr} {ta : TE} {t : TA}

/-- the callee runs -/
theorem run_fn {pins : List (Addr × Obj)} {σ : St} {H : Hp} {s : Shared} {Q : VK} {us : List Value} {vs : List V} (F : FnOk X.prog X.w X.K X.mg X.base CX k f fd ps sp) (hr : Room k X.A) (hb : Binds X.K fd ps ds) (hd : Vals dvs ds) (hx : Passes CX X E)
    (I : Inv X pins σ H s) (r : Vals vs us) (h : sp (vs ++ dvs) H Q E) : wpAny (model X.prog X.w) X.A (call (.ref f) us) (EP X pins σ Q) X.xe s := by
  have r2 : Vals (vs ++ dvs) (us ++ ds) := r.append hd
  have hl : (us ++ ds).length = ps.length := by rw [← r2.length]; exact F.len _ _ _ _ h
  refine wpAny_call (codeAny_mono (F.run X.A X.stack s H ⟨us, []⟩ (us ++ ds) (vs ++ dvs) Q E hr I.env0 (hb s us I.kIn hl) r2 h) fun r s' hq => ?_)
  cases r with
  | error e => exact hx pins σ H s e s' I hq
  | ok fl =>
    cases fl with
    | ret u => exact I.after hq
    | next => exact False.elim hq
    | brk => exact False.elim hq
    | cont => exact False.elim hq

theorem pe_call (F : FnOk X.prog X.w X.K X.mg X.base CX k f fd ps sp) (hr : Room k X.A) (hg : Gl X x) (hm : X.mg x = some (.ref f)) (hk : PySem.W.keepIn X.K (.ref f) = true) (hb : Binds X.K fd ps ds) (hd : Vals dvs ds) (hx : Passes CX X E)
    (ha : PA X (e :: es) t) (hdb : (x == ("__debug__" : Str)) = false := by decide) (he : starEach (e :: es) X.env = (false, eval e X.env) :: starEach es X.env := by rfl) (hpl : (backTo pos (starEach es X.env)).any (·.1) = false := by rfl) :
    PE X (.Call (.Name x p) (e :: es) [] pos) (tCall sp dvs E t) := by
  intro pins s σ H Q I h
  refine wpAny_Call_Name_kw (ld_glob I hg hm ?_ hdb)
  refine PySem.W.callWith_K (h₀ := X.base) I.ok.mod.kin hk (thn (ha pos pins s σ H _ I h) fun us s1 ⟨vs, H1, I1, r, q⟩ => ⟨I1.kIn, ?_⟩) he hpl
  exact run_fn F hr hb hd hx I1 r q
theorem pe_call0 (F : FnOk X.prog X.w X.K X.mg X.base CX k f fd ps sp) (hr : Room k X.A) (hg : Gl X x) (hm : X.mg x = some (.ref f)) (hk : PySem.W.keepIn X.K (.ref f) = true) (hb : Binds X.K fd ps ds) (hd : Vals dvs ds) (hx : Passes CX X E)
    (hdb : (x == ("__debug__" : Str)) = false := by decide) : PE X (.Call (.Name x p) [] [] pos) (tCall sp dvs E tNil) := by
  intro pins s σ H Q I h
  refine wpAny_Call_Name_kw (ld_glob I hg hm ?_ hdb)
  exact PySem.W.callWith_K0 I.kIn hk (run_fn (us := []) F hr hb hd hx I .nil h)

/-- o.m(e, ..) -/
theorem pe_meth {pl : Sem Bool} (he : PE X o ta) (c : Cls X.K C) (hm : Meth X.K C m f) (F : FnOk X.prog X.w X.K X.mg X.base CX k f fd ps sp) (hr : Room k X.A) (hb : Binds X.K fd ps ds) (hd : Vals dvs ds) (hx : Passes CX X E) (ha : PA X (e :: es) t)
    (hst : starEach (e :: es) X.env = (false, eval e X.env) :: starEach es X.env := by rfl) (hpl : (backTo pos (starEach es X.env)).any (·.1) = false := by rfl)
    (ht : eval (.Call (.Attribute o m apos) (e :: es) [] pos) X.env = (do
      let ov ← eval o X.env
      standAt apos.atName
      let (f, first) ← holding [ov] (getMethod ov m pl)
      callWith pos f first (backTo pos (starEach (e :: es) X.env)) (backToKw pos (keywordEach [] X.env))) := by rfl) :
    PE X (.Call (.Attribute o m apos) (e :: es) [] pos) (tMeth C m sp dvs E ta t) := by
  intro pins s σ H Q I h
  refine PySem.W.methodCall_KW (pl := pl) (thn (he pins s σ H _ I h) fun u s1 ⟨x, H1, I1, rx, a, dx, fs, ex, ea, l, q⟩ => ?_) ht
  subst ex
  obtain rfl : u = Value.ref a := rx
  refine getmeth_ok I1 ea c hm l ?_
  refine PySem.W.callWith_K (first := [.ref a]) (h₀ := X.base) I.ok.mod.kin hm.kp (thn (ha pos pins s1 σ H1 _ I1 q) fun us s2 ⟨vs, H2, I2, r, q2⟩ => ⟨I2.kIn, ?_⟩) hst hpl
  exact run_fn (us := .ref a :: us) (vs := .ref a :: vs) F hr hb hd hx I2 (.cons rfl r) q2
/-- o.m() -/
theorem pe_meth0 {pl : Sem Bool} (he : PE X o ta) (c : Cls X.K C) (hm : Meth X.K C m f) (F : FnOk X.prog X.w X.K X.mg X.base CX k f fd ps sp) (hr : Room k X.A) (hb : Binds X.K fd ps ds) (hd : Vals dvs ds) (hx : Passes CX X E)
    (ht : eval (.Call (.Attribute o m apos) [] [] pos) X.env = (do
      let ov ← eval o X.env
      standAt apos.atName
      let (f, first) ← holding [ov] (getMethod ov m pl)
      callWith pos f first (backTo pos (starEach [] X.env)) (backToKw pos (keywordEach [] X.env))) := by rfl) :
    PE X (.Call (.Attribute o m apos) [] [] pos) (tMeth C m sp dvs E ta tNil) := by
  intro pins s σ H Q I h
  refine PySem.W.methodCall_KW (pl := pl) (thn (he pins s σ H _ I h) fun u s1 ⟨x, H1, I1, rx, a, dx, fs, ex, ea, l, q⟩ => ?_) ht
  subst ex
  obtain rfl : u = Value.ref a := rx
  refine getmeth_ok I1 ea c hm l ?_
  exact PySem.W.callWith_K0 (first := [.ref a]) I1.kIn hm.kp (run_fn (us := [.ref a]) (vs := [.ref a]) F hr hb hd hx I1 (.cons rfl .nil) q)

/-- what a class must have to be made -/
structure Mk (K : PySem.W.Frag) (C f : Addr) : Prop where
  makes : PySem.W.makesIn K C = true
  init : PySem.W.findIn K (.ref C) "__init__" = some (some (.ref f))
  fn : PySem.W.isFn K (.ref f) = true
  kp : PySem.W.keepIn K (.ref C) = true

theorem run_make {pins : List (Addr × Obj)} {σ : St} {H : Hp} {s : Shared} {Q : VK} {us : List Value} {vs : List V} (M : Mk X.K C f) (F : FnOk X.prog X.w X.K X.mg X.base CX k f fd ps sp) (hr : Room (k + 1) X.A) (hb : Binds X.K fd ps ds) (hd : Vals dvs ds)
    (hx : Passes CX X E) (I : Inv X pins σ H s) (r : Vals vs us)
    (h : ∀ x dx, H x = none → H dx = none → dx ≠ x → sp (.ref x :: (vs ++ dvs)) (upd (upd H dx (.own x)) x (.ins C dx [])) (fun v H2 => v = .non ∧ Q (.ref x) H2) E) :
    wpAny (model X.prog X.w) X.A (call (.ref C) us) (EP X pins σ Q) X.xe s := by
  have hq := h (s.heap.objs.size + 1) s.heap.objs.size (I.hok.fresh (Nat.le_succ _)) (I.hok.fresh (Nat.le_refl _)) (Nat.ne_of_lt (Nat.lt_succ_self _))
  have I2 := Inv.made (C := C) I
  have r2 : Vals (V.ref (s.heap.objs.size + 1) :: (vs ++ dvs)) (Value.ref (s.heap.objs.size + 1) :: (us ++ ds)) := .cons rfl (r.append hd)
  have hl : (Value.ref (s.heap.objs.size + 1) :: us ++ ds).length = ps.length := by
    have e := r2.length
    rw [F.len _ _ _ _ hq] at e
    exact e.symm
  refine wpAny_call (make_map (f := f) I.kIn M.makes M.init (beq_iff_eq.mp M.fn) (codeAny_mono (F.run _ X.stack _ _ ⟨Value.ref (s.heap.objs.size + 1) :: us, []⟩ (Value.ref (s.heap.objs.size + 1) :: (us ++ ds)) _ _ E (hr.make C us [])
    (I2.env0.make C us []) (hb _ (Value.ref (s.heap.objs.size + 1) :: us) I2.kIn hl) r2 hq) fun r s' hq' => ?_))
  cases r with
  | error e => exact hx pins σ _ _ e s' I2 hq'
  | ok fl =>
    cases fl with
    | ret u =>
      obtain ⟨v, H', I3, rv, ev, q3⟩ := I2.after hq'
      subst ev
      exact ⟨rv, ⟨V.ref (s.heap.objs.size + 1), H', I3, rfl, q3⟩⟩
    | next => exact False.elim hq'
    | brk => exact False.elim hq'
    | cont => exact False.elim hq'
theorem pe_make (M : Mk X.K C f) (F : FnOk X.prog X.w X.K X.mg X.base CX k f fd ps sp) (hr : Room (k + 1) X.A) (hg : Gl X x) (hm : X.mg x = some (.ref C)) (hb : Binds X.K fd ps ds) (hd : Vals dvs ds) (hx : Passes CX X E)
    (ha : PA X (e :: es) t) (hdb : (x == ("__debug__" : Str)) = false := by decide) (he : starEach (e :: es) X.env = (false, eval e X.env) :: starEach es X.env := by rfl) (hpl : (backTo pos (starEach es X.env)).any (·.1) = false := by rfl) :
    PE X (.Call (.Name x p) (e :: es) [] pos) (tMake C sp dvs E t) := by
  intro pins s σ H Q I h
  refine wpAny_Call_Name_kw (ld_glob I hg hm ?_ hdb)
  refine PySem.W.callWith_K (h₀ := X.base) I.ok.mod.kin M.kp (thn (ha pos pins s σ H _ I h) fun us s1 ⟨vs, H1, I1, r, q⟩ => ⟨I1.kIn, ?_⟩) he hpl
  exact run_make M F hr hb hd hx I1 r q
theorem pe_make0 (M : Mk X.K C f) (F : FnOk X.prog X.w X.K X.mg X.base CX k f fd ps sp) (hr : Room (k + 1) X.A) (hg : Gl X x) (hm : X.mg x = some (.ref C)) (hb : Binds X.K fd ps ds) (hd : Vals dvs ds) (hx : Passes CX X E)
    (hdb : (x == ("__debug__" : Str)) = false := by decide) : PE X (.Call (.Name x p) [] [] pos) (tMake C sp dvs E tNil) := by
  intro pins s σ H Q I h
  refine wpAny_Call_Name_kw (ld_glob I hg hm ?_ hdb)
  exact PySem.W.callWith_K0 I.kIn M.kp (run_make (us := []) M F hr hb hd hx I .nil h)
end

/-! ### keywords -/
/-- the values of the keywords, from the left -/
def PK (X : Cx) (kws : List Keyword) (t : TA) : Prop :=
  ∀ (pos : Pos) (pins : List (Addr × Obj)) (s : Shared) (σ : St) (H : Hp) (Q : List V → Hp → Prop), Inv X pins σ H s → t σ H Q → wpAny (model X.prog X.w) X.A (evalAll ((backToKw pos (keywordEach kws X.env)).map (·.2))) (AP X pins σ Q) X.xe s
section
variable {X : Cx} {CX : CXT} {k : Nat} {f C : Addr} {fd : FuncData} {ps ks : List Str} {sp : Sp} {E : XK} {x m : Str} {p pos apos kpos : Pos} {e o : Expr} {es : List Expr} {kws : List Keyword} {te ta : TE} {t tk : TA} {nm : Option Str}
theorem pk_nil : PK X [] tNil := fun _ _ _ _ H Q I h => wpAny_evalAll_nil ⟨[], H, I, .nil, h⟩
theorem pk_cons (ha : PE X e te) (hr : PK X kws t) : PK X (⟨nm, e, kpos⟩ :: kws) (tCons te t) := by
  intro pos pins s σ H Q I h
  show wpAny _ _ (evalAll ((do let v ← eval e X.env; standAt pos; pure v) :: (backToKw pos (keywordEach kws X.env)).map (·.2))) _ _ s
  refine wpAny_evalAll_cons (wpAny_bind (thn (ha pins s σ H _ I h) fun u s1 ⟨x, H1, I1, r1, q1⟩ => wpAny_bind (wpAny_standAt (wpAny_pure ?_))))
  exact thn (hr pos pins s1 σ H1 _ I1 q1) fun us s2 ⟨xs, H2, I2, r2, q2⟩ => ⟨x :: xs, H2, I2, .cons r1 r2, q2⟩

/-- how a call with keywords binds: g puts the positional values us and the keywords' values ws (names ks) in the parameters' order, defaults among them -/
structure KBinds (K : PySem.W.Frag) (fd : FuncData) (ps ks : List Str) (g : List Value → List Value → List Value) (gV : List V → List V → List V) : Prop where
  to : ∀ (s : Shared) (us ws : List Value), K.In s.heap → (g us ws).length = ps.length → BindsTo s fd ⟨us, ks.zip ws⟩ (ps.zip (g us ws))
  rel : ∀ {vs : List V} {us : List Value} {zs : List V} {ws : List Value}, Vals vs us → Vals zs ws → Vals (gV vs zs) (g us ws)
def tCallK (sp : Sp) (gV : List V → List V → List V) (E : XK) (t tk : TA) : TE := fun σ H Q => t σ H fun vs H1 => tk σ H1 fun zs H2 => sp (gV vs zs) H2 Q E
variable {g : List Value → List Value → List Value} {gV : List V → List V → List V}
theorem run_fnk {pins : List (Addr × Obj)} {σ : St} {H : Hp} {s : Shared} {Q : VK} {us ws : List Value} {vs zs : List V} (F : FnOk X.prog X.w X.K X.mg X.base CX k f fd ps sp) (hr : Room k X.A) (hb : KBinds X.K fd ps ks g gV) (hx : Passes CX X E)
    (I : Inv X pins σ H s) (r : Vals vs us) (rz : Vals zs ws) (h : sp (gV vs zs) H Q E) : wpAny (model X.prog X.w) X.A (call (.ref f) us (ks.zip ws)) (EP X pins σ Q) X.xe s := by
  have r2 := hb.rel r rz
  have hl : (g us ws).length = ps.length := by rw [← r2.length]; exact F.len _ _ _ _ h
  refine wpAny_call (codeAny_mono (F.run X.A X.stack s H ⟨us, ks.zip ws⟩ (g us ws) (gV vs zs) Q E hr I.env0 (hb.to s us ws I.kIn hl) r2 h) fun r s' hq => ?_)
  cases r with
  | error e => exact hx pins σ H s e s' I hq
  | ok fl =>
    cases fl with
    | ret u => exact I.after hq
    | next => exact False.elim hq
    | brk => exact False.elim hq
    | cont => exact False.elim hq
/-- f(e, .., k = v, ..) -/
theorem pe_callK (F : FnOk X.prog X.w X.K X.mg X.base CX k f fd ps sp) (hr : Room k X.A) (hg : Gl X x) (hm : X.mg x = some (.ref f)) (hk : PySem.W.keepIn X.K (.ref f) = true) (hb : KBinds X.K fd ps ks g gV) (hx : Passes CX X E)
    (ha : PA X (e :: es) t) (hkw : PK X kws tk) (hall : (backToKw pos (keywordEach kws X.env)).all (·.1.isSome) = true := by rfl) (hks : (backToKw pos (keywordEach kws X.env)).filterMap (·.1) = ks := by rfl)
    (hdb : (x == ("__debug__" : Str)) = false := by decide) (he : starEach (e :: es) X.env = (false, eval e X.env) :: starEach es X.env := by rfl)
    (hpl : ((backTo pos (starEach (e :: es) X.env)).any (·.1) || (backToKw pos (keywordEach kws X.env)).any (·.1.isNone)) = false := by rfl) :
    PE X (.Call (.Name x p) (e :: es) kws pos) (tCallK sp gV E t tk) := by
  intro pins s σ H Q I h
  refine wpAny_Call_Name_kw (ld_glob I hg hm ?_ hdb)
  refine PySem.W.callWith_KW (h₀ := X.base) I.ok.mod.kin hk hall (thn (ha pos pins s σ H _ I h) fun us s1 ⟨vs, H1, I1, r, q⟩ => ?_) hpl he
  refine thn (hkw pos pins s1 σ H1 _ I1 q) fun ws s2 ⟨zs, H2, I2, rz, q2⟩ => ⟨I2.kIn, ?_⟩
  rw [hks]
  exact run_fnk F hr hb hx I2 r rz q2
end

/-! ### a def's body keeps its promise -/
/-- names: the parameters first -/
structure FnScope (N P : List Str) (sc : Scope) : Prop where
  kind : sc.kind = .function
  co : sc.isCoroutine = false
  gen : sc.isGenerator = false
  nd : N.Nodup
  pre : N.take P.length = P
  par : ∀ x ∈ P, sc.names.lookup x = some .local ∨ sc.names.lookup x = some .cell
  nofree : ∀ y ∈ sc.names, y.2 ≠ .free

theorem bindL_out {kindOf : Str → Option NameKind} {x : Str} : ∀ {binds : List (Str × Value)} {m : Str → Option Value}, (∀ v, (x, v) ∉ binds) → bindL kindOf binds m x = m x
  | [], _, _ => rfl
  | (n, v) :: r, m, h => by
    unfold bindL
    rw [bindL_out fun w hw => h w (List.mem_cons_of_mem _ hw)]
    split
    · have : x ≠ n := by rintro rfl; exact h v List.mem_cons_self
      simp [this]
    · rfl
theorem bindC_out {kindOf : Str → Option NameKind} {x : Str} : ∀ {binds : List (Str × Value)} {m : Str → Option Value}, (∀ v, (x, v) ∉ binds) → bindC kindOf binds m x = m x
  | [], _, _ => rfl
  | (n, v) :: r, m, h => by
    unfold bindC
    rw [bindC_out fun w hw => h w (List.mem_cons_of_mem _ hw)]
    split
    · rfl
    · have : x ≠ n := by rintro rfl; exact h v List.mem_cons_self
      simp [this]
theorem bindL_get {kindOf : Str → Option NameKind} {x : Str} {v : Value} : ∀ {P : List Str} {vs : List Value} {i : Nat} {m : Str → Option Value}, P.Nodup → P[i]? = some x → vs[i]? = some v → kindOf x = some .local →
    bindL kindOf (P.zip vs) m x = some v
  | [], _, _, _, _, h, _, _ => by simp at h
  | _ :: _, [], _, _, _, _, h, _ => by simp at h
  | p :: P, w :: vs, 0, m, nd, h1, h2, hk => by
    simp at h1 h2; subst h1; subst h2
    show bindL kindOf ((p, w) :: P.zip vs) m p = _
    unfold bindL
    rw [bindL_out fun v hv => (List.nodup_cons.mp nd).1 (List.of_mem_zip hv).1, if_pos hk]
    simp
  | p :: P, w :: vs, i + 1, m, nd, h1, h2, hk => by
    show bindL kindOf ((p, w) :: P.zip vs) m x = _
    unfold bindL
    exact bindL_get (i := i) (List.nodup_cons.mp nd).2 (by simpa using h1) (by simpa using h2) hk
theorem bindC_get {kindOf : Str → Option NameKind} {x : Str} {v : Value} : ∀ {P : List Str} {vs : List Value} {i : Nat} {m : Str → Option Value}, P.Nodup → P[i]? = some x → vs[i]? = some v → kindOf x ≠ some .local →
    bindC kindOf (P.zip vs) m x = some v
  | [], _, _, _, _, h, _, _ => by simp at h
  | _ :: _, [], _, _, _, _, h, _ => by simp at h
  | p :: P, w :: vs, 0, m, nd, h1, h2, hk => by
    simp at h1 h2; subst h1; subst h2
    show bindC kindOf ((p, w) :: P.zip vs) m p = _
    unfold bindC
    rw [bindC_out fun v hv => (List.nodup_cons.mp nd).1 (List.of_mem_zip hv).1, if_neg hk]
    simp
  | p :: P, w :: vs, i + 1, m, nd, h1, h2, hk => by
    show bindC kindOf ((p, w) :: P.zip vs) m x = _
    unfold bindC
    exact bindC_get (i := i) (List.nodup_cons.mp nd).2 (by simpa using h1) (by simpa using h2) hk

/-- the names' values at the entry -/
def start (N : List Str) (vs : List V) : St := vs.map some ++ List.replicate (N.length - vs.length) none

/-- the context of a def's body, at its entry; an exception leaves the frame, then lies as CX says -/
def cxOf (CX : CXT) (P : Program) (w : World) (K : PySem.W.Frag) (mg : Str → Option Value) (base : Heap) (N : List Str) (qual : Str) (scope : Scope) (f : Addr) (cd : Value) (A : Around) (outer : List Env) (s : Shared) (H : Hp) (E : XK) : Cx where
  prog := P
  w := w
  K := K
  mg := mg
  base := base
  A := A.deeper (envOfC qual scope s.heap.objs.size f cd)
  N := N
  s₀ := s
  H₀ := H
  env := envOfC qual scope s.heap.objs.size f cd
  outer := outer
  stack := envOfC qual scope s.heap.objs.size f cd :: outer
  ex := []
  calm := true
  fn := fun _ => true
  pn := []
  xe := fun e s' => wpAny (model P w) (A.deeper (envOfC qual scope s.heap.objs.size f cd)) (leaving (envOfC qual scope s.heap.objs.size f cd) e) (fun _ s'' => CX outer H s E e s'') (fun e' s'' => CX outer H s E e' s'') s'

theorem cell_has {sc : Scope} {n : Nat} {x : Str} (h : sc.names.lookup x = some .cell) : ∃ c, (cellsFrom n sc.names []).lookup x = some c := by
  have q := PySem.W.cellsFrom_some sc.names n [] (.inl h)
  exact Option.isSome_iff_exists.mp q

theorem inv_start {CX : CXT} {P : Program} {w : World} {K : PySem.W.Frag} {mg : Str → Option Value} {base : Heap} {N ps : List Str} {qual : Str} {scope : Scope} {f : Addr} {cd : Value} {A : Around} {outer : List Env} {s s1 : Shared} {H : Hp} {E : XK} {us : List Value} {vs : List V}
    (S : FnScope N ps scope) (hd : A.handled = none) (e0 : Env0 P w K mg base A outer s H) (hl : vs.length = ps.length) (r : Vals vs us)
    (x : InCallC s s.heap.objs.size (bindL (envOfC qual scope s.heap.objs.size f cd).kindOf (ps.zip us) fun _ => none) (cellsFrom (s.heap.objs.size + 1) scope.names []) (bindC (envOfC qual scope s.heap.objs.size f cd).kindOf (ps.zip us) fun _ => none) s1) :
    Inv (cxOf CX P w K mg base N qual scope f cd A outer s H E) [] (start N vs) H s1 := by
  have hpl : ps.length ≤ N.length := by have := congrArg List.length S.pre; rw [List.length_take] at this; omega
  obtain ⟨h1, tk, rfl, hk⟩ := x.done
  have noA : ∀ b : Addr, b ∉ (cxOf CX P w K mg base N qual scope f cd A outer s H E).ex := fun b z => absurd (show b ∈ ([] : List Addr) from z) (by simp)
  refine ⟨⟨e0.mod, S.kind, rfl, rfl, Nat.le_refl _, fun y z c h1 h2 => ?_, fun y hy => ?_, fun y c _ h => ?_, fun _ => hd, Around.frames_deeper e0.frames, .inr ⟨rfl, rfl⟩, fun b z => absurd z (noA b), e0.bs, e0.bsz, fun b _ _ => noA b, fun b z => absurd z (noA b), e0.funs, e0.frf⟩,
    rfl, e0.bare, Un.kept hk, ⟨_, x.toInCall.ns, fun i y v h1 h2 h3 => ?_⟩, fun y c h => ⟨_, x.cell y c h⟩, e0.hok.fresh (Nat.le_refl _), fun y c h => ?_, fun p hp => absurd (show p ∈ ([] : List (Addr × Obj)) from hp) (by simp), e0.hok.kept hk, ?_⟩
  · exact name_of_addr x.apart (PySem.mem_of_lookup h1) (PySem.mem_of_lookup h2)
  · have hy : scope.names.lookup y = some .cell ∨ scope.names.lookup y = some .free := hy
    rcases hy with hy | hy
    · exact cell_has hy
    · exact absurd rfl (S.nofree _ (PySem.mem_of_lookup hy))
  · exact Nat.le_of_lt (x.above y c (PySem.mem_of_lookup h))
  · have hi : i < vs.length := by
      unfold start at h2
      by_cases hi : i < vs.length
      · exact hi
      · rw [List.getElem?_append_right (by simpa using hi)] at h2
        rw [List.getElem?_replicate] at h2
        split at h2 <;> cases h2
    have ha : vs[i]? = some v := by
      unfold start at h2
      rw [List.getElem?_append_left (by simpa using hi), List.getElem?_map] at h2
      cases e : vs[i]? with
      | none => rw [e] at h2; cases h2
      | some a => rw [e] at h2; cases h2; rfl
    obtain ⟨u, hu, rv⟩ := r.get ha
    have hp : ps[i]? = some y := by
      rw [← S.pre, List.getElem?_take_of_lt (by omega)]; exact h1
    have ndP : ps.Nodup := by rw [← S.pre]; exact S.nd.sublist (List.take_sublist _ _)
    refine ⟨u, rv, ?_⟩
    rcases S.par y (List.mem_of_getElem? hp) with k | k
    · exact .inl ⟨k, bindL_get ndP hp hu k⟩
    · obtain ⟨c, e⟩ := cell_has (n := s.heap.objs.size + 1) k
      refine .inr ⟨.inl k, c, e, ?_⟩
      have q := x.cell y c e
      rw [bindC_get ndP hp hu (by show scope.names.lookup y ≠ _; rw [k]; decide)] at q
      exact q
  · exact e0.hok.fresh (Nat.le_of_lt (x.above y c (PySem.mem_of_lookup h)))
  · unfold start
    show _ = N.length
    rw [List.length_append, List.length_map, List.length_replicate]
    omega

/-- THE RULE: a def (or a method) of the text, by its body. The body's reading t is chosen for each entry; it is run at the parameters' values -/
theorem fn_of {CX : CXT} {P : Program} {w : World} {K : PySem.W.Frag} {mg : Str → Option Value} {base : Heap} {k : Nat} {f : Addr} {name qual : Str} {params : Arguments} {body : List Stmt} {scope : Scope} {dV kV doc pm cdv ct oc : Value} {an od : Option Addr}
    {osl : Array (Option Value)} {N ps : List Str} {sp : Sp} (lk : K.lookup f = some ⟨oc, od, .func (PySem.W.fnOf name qual params body scope dV kV doc pm an cdv ct), osl⟩) (hcd : PySem.W.codeIn K cdv qual = true) (S : FnScope N ps scope)
    (len : ∀ vs H Q E, sp vs H Q E → vs.length = ps.length)
    (hbody : ∀ (A : Around) (outer : List Env) (s : Shared) (H : Hp) (vs : List V) (Q : VK) (E : XK), Room k (A.deeper (envOfC qual scope s.heap.objs.size f cdv)) → sp vs H Q E →
      ∃ t, PSs (cxOf CX P w K mg base N qual scope f cdv A outer s H E) body t ∧ t { nx := fun _ H' => Q .non H', rt := Q } (start N vs) H) :
    FnOk P w K mg base CX (k + 1) f (PySem.W.fnOf name qual params body scope dV kV doc pm an cdv ct) ps sp := by
  refine ⟨len, fun A outer s H args us vs Q E hr e0 hb r hsp => ?_⟩
  have hl := len _ _ _ _ hsp
  have KX : K.In s.heap := e0.mod.kin.keeps fun b o e => (e0.bs b o e).1
  have lim : s.heap.NoLimit := e0.mod.nolimit.keeps fun b o e => (e0.bs b o e).1
  have hkind : ∀ y ∈ ps.zip us, scope.names.lookup y.1 = some .local ∨ (scope.names.lookup y.1 = some .cell ∧ ((cellsFrom (s.heap.objs.size + 1) scope.names []).lookup y.1).isSome = true) := fun ⟨n, v⟩ hy => by
    rcases S.par n (List.of_mem_zip hy).1 with q | q
    · exact .inl q
    · exact .inr ⟨q, PySem.W.cellsFrom_some _ _ _ (.inl q)⟩
  refine codeAny_call_function hr.depth (KX _ _ lk) rfl S.co S.gen rfl (PySem.W.codeRec_of KX hcd) (hb _ _ _ _ ?_)
  refine wpAny_newFunctionEnv_cells S.kind hkind fun env he s1 x => ?_
  subst he
  refine ⟨lim.keeps x.toInCall.keep, codeAny_func ?_⟩
  obtain ⟨t, ht, hq⟩ := hbody A outer s H vs Q E (hr.deeper _) hsp
  have I : Inv (cxOf CX P w K mg base N qual scope f cdv A outer s H E) [] (start N vs) H s1 := inv_start S hr.hd e0 hl r x
  refine wpAny_mono (ht [] s1 (start N vs) H _ I hq) (fun fl s' hs => ?_) fun e s' hs => hs
  have fin : ∀ {σ' : St} {H' : Hp} {v : V} {u : Value}, Inv (cxOf CX P w K mg base N qual scope f cdv A outer s H E) [] σ' H' s' → RelV v u → Q v H' → CE outer P w H s Q u s' :=
    fun {σ' H' v u} J rv q => ⟨v, H', J.os, J.bare, J.base, J.hok, rv, q⟩
  cases fl with
  | ret u =>
    obtain ⟨v, σ', H', J, rv, q⟩ := hs
    exact fin J rv q
  | next =>
    obtain ⟨σ', H', J, q⟩ := hs
    exact fin (v := V.non) (u := Value.none) J rfl q
  | brk =>
    obtain ⟨_, _, _, q⟩ := hs
    exact False.elim q
  | cont =>
    obtain ⟨_, _, _, q⟩ := hs
    exact False.elim q
end L2

namespace L2
open PySem PySem.Spec PyProof.Rows
section
variable {X : Cx} {x : Str} {p pos : Pos} {e : Expr} {es : List Expr} {t : TA} {id T : String} {r : List V → Hp → VK → Prop}

def tCB (r : List V → Hp → VK → Prop) (t : TA) : TE := fun σ H Q => t σ H fun vs H1 => r vs H1 Q
/-- f(e, ..), f a built-in function -/
theorem pe_callB (hc : CallR X (.builtin id) r) (hg : Gl X x) (hm : X.mg x = none) (hv : bootBuiltins x = some (.builtin id)) (ha : PA X (e :: es) t) (hn : x ≠ "__name__" := by decide) (hdb : (x == ("__debug__" : Str)) = false := by decide)
    (he : starEach (e :: es) X.env = (false, eval e X.env) :: starEach es X.env := by rfl) (hpl : (backTo pos (starEach es X.env)).any (·.1) = false := by rfl) : PE X (.Call (.Name x p) (e :: es) [] pos) (tCB r t) := by
  intro pins s σ H Q I h
  refine wpAny_Call_Name_kw (ld_blt I hg hm hv ?_ hn hdb)
  exact PyProof.Rows.callWith_builtin1 (thn (ha pos pins s σ H _ I h) fun us s1 ⟨vs, H1, I1, r1, q1⟩ => hc pins s1 σ H1 vs us Q I1 r1 q1) he hpl
/-- T(e, ..), T a built-in type -/
theorem pe_callTy (hc : CallR X (.type T) r) (hg : Gl X x) (hm : X.mg x = none) (hv : bootBuiltins x = some (.type T)) (ha : PA X (e :: es) t) (hn : x ≠ "__name__" := by decide) (hdb : (x == ("__debug__" : Str)) = false := by decide)
    (he : starEach (e :: es) X.env = (false, eval e X.env) :: starEach es X.env := by rfl) (hpl : (backTo pos (starEach es X.env)).any (·.1) = false := by rfl) : PE X (.Call (.Name x p) (e :: es) [] pos) (tCB r t) := by
  intro pins s σ H Q I h
  refine wpAny_Call_Name_kw (ld_blt I hg hm hv ?_ hn hdb)
  exact PyProof.Rows.callWith_type1 (thn (ha pos pins s σ H _ I h) fun us s1 ⟨vs, H1, I1, r1, q1⟩ => hc pins s1 σ H1 vs us Q I1 r1 q1) he hpl
/-- T() -/
theorem pe_callTy0 (hc : CallR X (.type T) r) (hg : Gl X x) (hm : X.mg x = none) (hv : bootBuiltins x = some (.type T)) (hn : x ≠ "__name__" := by decide) (hdb : (x == ("__debug__" : Str)) = false := by decide) :
    PE X (.Call (.Name x p) [] [] pos) (tCB r tNil) := by
  intro pins s σ H Q I h
  refine wpAny_Call_Name_kw (ld_blt I hg hm hv ?_ hn hdb)
  exact PyProof.Rows.callWith_type0 (hc pins s σ H [] [] Q I .nil h)
end
end L2

namespace HT
open PySem PyProof.Rows

/-- t < u of tuples of ints -/
def lexLt : List Int → List Int → Bool
  | [], [] => false
  | [], _ :: _ => true
  | _ :: _, [] => false
  | x :: xs, y :: ys => if x = y then lexLt xs ys else decide (x < y)
theorem lexLt_cons (x y : Int) (xs ys : List Int) : lexLt (x :: xs) (y :: ys) = if x = y then lexLt xs ys else decide (x < y) := rfl
theorem lexLt_nil_nil : lexLt [] [] = false := rfl
theorem lexLt_nil_cons (y : Int) (ys : List Int) : lexLt [] (y :: ys) = true := rfl
theorem lexLt_cons_nil (x : Int) (xs : List Int) : lexLt (x :: xs) [] = false := rfl

theorem eqAt_int (A : Around) (s : Shared) (a : Int) (t : Tok) (c : Int) (u : Tok) : ∃ e, SeqAt.EqAt A s (.int a t) (.int c u) e ∧ (e = true ↔ a = c) :=
  ⟨(a == c), SeqAt.EqAt.int_int a t c u, by simp⟩
theorem rcLt_int (A : Around) (s : Shared) (a : Int) (t : Tok) (c : Int) (u : Tok) (prog : Program) (w : World) (E : Value → Shared → Prop) (Q : Value → Shared → Prop) (h : Q (.bool (decide (a < c))) s) :
    wpAny (model prog w) A (richCompare .Lt (.int a t) (.int c u)) Q E s :=
  (PyProof.Rows.lt_int h : wpAny (model prog w) A (compareOp .Lt (.int a t) (.int c u)) Q E s)

section
open PySem.SeqAt
open PySem.AutoSeq1 (wpAny_loadPart')
open PySem.MeetsSeq PySem.MeetsSeq2 PySem.MeetsSeq3

theorem tuple_lt_ints (l b : Addr) (items items2 : Array Value) (n n2 : Nat) (dd dd2 : Option Addr) (sl sl2 : Array (Option Value)) (ns ms : List Int) (hi : IntsAre items.toList ns) (hj : IntsAre items2.toList ms) :
    Meets (Builtin.«tuple.__lt__» ⟨[.ref l, .ref b], []⟩)
      (fun _ R s => s.heap.get? l = some { cls := .type "tuple", dict := dd, data := .seq items n, slots := sl } ∧ s.heap.get? b = some { cls := .type "tuple", dict := dd2, data := .seq items2 n2, slots := sl2 } ∧
        R (.ok (.ret (.bool (lexLt ns ms)))) s) :=
  .of_wp fun prog w A R s h => by
    obtain ⟨hp, g, d, tk, os⟩ := s; obtain ⟨hl, hb, h⟩ := h
    have f2 := AutoSeq1.sub_tuple_tuple
    have z1 : items.size = ns.length := by rw [← hi.length]; simp
    have z2 : items2.size = ms.length := by rw [← hj.length]; simp
    wp_walk using wpAny_loadPart' hl, wpAny_loadPart' hb, wpAny_forIn_list _ (fun rest b s' => b.1 = none ∧ s' = ⟨hp, g, d, tk, os⟩ ∧ ∃ (vs ws : List Value) (ns' ms' : List Int), rest = vs.zip ws ∧
      IntsAre vs ns' ∧ IntsAre ws ms' ∧ ns'.length + items2.size = ms'.length + items.size ∧ R (.ok (.ret (.bool (lexLt ns' ms')))) ⟨hp, g, d, tk, os⟩) _
    case turn =>
      rintro ⟨y, x⟩ rest b s' ⟨hb', rfl, vs, ws, ns', ms', hz, hvi, hwi, hlen, hR⟩
      cases hvi with
      | nil => rw [List.zip_nil_left] at hz; cases hz
      | cons a t hvi' =>
        cases hwi with
        | nil => rw [List.zip_nil_right] at hz; cases hz
        | cons c u hwi' =>
          rw [List.zip_cons_cons] at hz
          injection hz with hyx hrest
          injection hyx with hy hx
          subst hy hx
          rw [lexLt_cons] at hR
          simp only [List.length_cons] at hlen
          obtain ⟨e, he, hiff⟩ := eqAt_int A.in1 ⟨hp, g, d, tk, os⟩ a t c u
          refine wpAny_bind (he prog w _ _ ?_)
          cases e with
          | true =>
            rw [if_pos (hiff.mp rfl)] at hR
            wp_walk
            exact ⟨rfl, rfl, _, _, _, _, hrest, hvi', hwi', by omega, hR⟩
          | false =>
            rw [if_neg (fun q => absurd (hiff.mpr q) Bool.false_ne_true)] at hR
            have hri := rcLt_int A.in1 ⟨hp, g, d, tk, os⟩ a t c u prog w
            wp_walk using hri
            exact ⟨_, rfl, by simpa using hR⟩
    case fin =>
      rintro ⟨b1, b2⟩ s' ⟨hb', rfl, vs, ws, ns', ms', hz, hvi, hwi, hlen, hR⟩
      simp only at hb'
      subst hb'
      have hv : lexLt ns' ms' = decide (items.size < items2.size) := by
        cases hvi with
        | nil =>
          cases hwi with
          | nil =>
            simp only [List.length_nil] at hlen
            rw [lexLt_nil_nil]
            exact (decide_eq_false (by omega)).symm
          | cons c u hw =>
            simp only [List.length_nil, List.length_cons] at hlen
            rw [lexLt_nil_cons]
            exact (decide_eq_true (by omega)).symm
        | cons a t hv =>
          cases hwi with
          | nil =>
            simp only [List.length_nil, List.length_cons] at hlen
            rw [lexLt_cons_nil]
            exact (decide_eq_false (by omega)).symm
          | cons c u hw =>
            rw [List.zip_cons_cons] at hz
            cases hz
      rw [hv] at hR
      wp_walk
      exact ⟨_, rfl, by simpa [Builtin.Tuple.tupleCompareSizes] using hR⟩
    case h =>
      exact ⟨rfl, rfl, items.toList, items2.toList, ns, ms, rfl, hi, hj, by omega, h⟩
end

section
variable {prog : Program} {w : World} {A : Around} {E : Value → Shared → Prop} {s : Shared}

theorem lt_tupInts {l b : Addr} {items items2 : Array Value} {ns ms : List Int} {Q : Value → Shared → Prop} (hl : IsTup s.heap l items) (hb : IsTup s.heap b items2) (hi : IntsAre items.toList ns) (hj : IntsAre items2.toList ms)
    (hu : A.units < cLine) (h : Q (.bool (lexLt ns ms)) s) : wpAny (model prog w) A (compareOp .Lt (.ref l) (.ref b)) Q E s := by
  obtain ⟨⟨cls, dd, data, sl⟩, ho, hc, n, hd⟩ := id hl
  obtain ⟨⟨cls2, dd2, data2, sl2⟩, ho2, hc2, n2, hd2⟩ := id hb
  simp only at hc hd hc2 hd2
  subst hc hd hc2 hd2
  exact richCompare_meets_room (op := .Lt) ⟨_, ho, rfl⟩ ⟨_, ho2, rfl⟩ PySem.F.slot_tuple_lt PySem.F.entry_tuple_lt (PySem.F.args_tuple_lt_2 _ _) (tuple_lt_ints l b items items2 n n2 dd dd2 sl sl2 ns ms hi hj)
    ⟨ho, ho2, show Value.bool (lexLt ns ms) ≠ Value.notImplemented ∧ Q (.bool (lexLt ns ms)) s from ⟨(fun x => nomatch x), h⟩⟩ hu

/-- t + u, t not empty -/
theorem cat_tup {t b : Addr} {vs ws : List Value} {Q : Value → Shared → Prop} (ht : IsTup s.heap t vs.toArray) (hb : IsTup s.heap b ws.toArray) (hv : vs ≠ [])
    (h1 : ws = [] → Q (.ref t) s) (h2 : ws ≠ [] → Q (.ref s.heap.objs.size) { s with heap := s.heap.push { cls := .type "tuple", data := .seq (vs ++ ws).toArray } })
    (hsz : vs.length + ws.length ≤ sizeLine) : wpAny (model prog w) A (binaryOp .Add (.ref t) (.ref b)) Q E s := by
  obtain ⟨⟨cls, dd, data, sl⟩, ho, hc, n, hd⟩ := id ht
  obtain ⟨⟨cls2, dd2, data2, sl2⟩, ho2, hc2, n2, hd2⟩ := id hb
  simp only at hc hd hc2 hd2
  subst hc hd hc2 hd2
  have e : vs.toArray ++ ws.toArray = (vs ++ ws).toArray := by simp
  by_cases hw : ws = []
  · exact concat_meets ⟨_, ho, rfl⟩ ⟨_, ho2, rfl⟩ noFill_tuple_add seq_tuple_add PySem.F.slot_tuple_add PySem.F.entry_tuple_add (PySem.F.args_tuple_add_2 _ _)
      (tuple_addW1 t b vs.toArray ws.toArray n n2 dd dd2 sl sl2 (by simpa using hv) (by simp [hw])) ⟨ho, ho2, h1 hw⟩
  · refine concat_meets ⟨_, ho, rfl⟩ ⟨_, ho2, rfl⟩ noFill_tuple_add seq_tuple_add PySem.F.slot_tuple_add PySem.F.entry_tuple_add (PySem.F.args_tuple_add_2 _ _)
      (tuple_addW2 t b vs.toArray ws.toArray n n2 dd dd2 sl sl2 (by simpa using hv) (by simpa using hw) (by rw [List.size_toArray, List.size_toArray]; exact hsz)) ⟨ho, ho2, ?_⟩
    rw [e]
    exact h2 hw

/-! ### t[a:b], not the whole -/
/-- a slice's bound as a place among n (d where it is left out) -/
def sIx (n d : Nat) : Option Int → Nat
  | none => d
  | some v => if v < 0 then (v + (n : Int)).toNat else min v.toNat n
theorem sIx_none (n d : Nat) : sIx n d none = d := rfl
theorem sIx_nat (n d k : Nat) : sIx n d (some (k : Int)) = min k n := by
  show (if (k : Int) < 0 then ((k : Int) + (n : Int)).toNat else min (k : Int).toNat n) = min k n
  rw [if_neg (by omega), Int.toNat_natCast]
theorem sIx_le (n d : Nat) (hd : d ≤ n) (o : Option Int) : sIx n d o ≤ n := by
  cases o with
  | none => exact hd
  | some v =>
    show (if v < 0 then (v + (n : Int)).toNat else min v.toNat n) ≤ n
    by_cases hv : v < 0
    · rw [if_pos hv]; omega
    · rw [if_neg hv]; exact Nat.min_le_right _ _
theorem clip_eq (v : Int) (n d : Nat) : (if v < 0 then max (v + (n : Int)) 0 else min v (n : Int)) = ((sIx n d (some v) : Nat) : Int) := by
  show (if v < 0 then max (v + (n : Int)) 0 else min v (n : Int)) = (((if v < 0 then (v + (n : Int)).toNat else min v.toNat n) : Nat) : Int)
  by_cases hv : v < 0
  · simp only [if_pos hv]; omega
  · simp only [if_neg hv]; omega
theorem adjust_gen (lo hi : Option Int) (n : Nat) : Builtin.Slice.sliceAdjust lo hi 1 (n : Int) = (((sIx n 0 lo : Nat) : Int), ((sIx n n hi : Nat) : Int)) := by
  have h1 : ¬ ((1 : Int) < 0) := by omega
  unfold Builtin.Slice.sliceAdjust
  simp only [h1, if_false]
  refine Prod.ext ?_ ?_
  · cases lo with
    | none => rfl
    | some v => exact clip_eq v n 0
  · cases hi with
    | none => rfl
    | some v => exact clip_eq v n n
theorem places_gen (i j : Nat) : Builtin.Slice.slicePlaces (i : Int) (j : Int) 1 = j - i := by
  unfold Builtin.Slice.slicePlaces
  have h1 : (1 : Int) > 0 := by omega
  simp only [h1, if_true, Int.ediv_one]
  split <;> omega
theorem slicePart_ {v : Value} {o : Option Int} {Q : Option Int → Shared → Prop} (p : IsPart v o) (h : Q o s) : wpAny (model prog w) A (Builtin.Slice.slicePartIndex v) Q E s := by
  cases p with
  | none => exact slicePart_none h
  | int i t => exact slicePart_int h
theorem sliceApplied_gen {sl : Addr} {vl vu : Value} {lo hi : Option Int} {n : Nat} {Q : Int × Int × Nat → Shared → Prop} (hs : s.heap.IsSliceOf sl vl vu .none) (pl : IsPart vl lo) (pu : IsPart vu hi)
    (h : Q (((sIx n 0 lo : Nat) : Int), 1, sIx n n hi - sIx n 0 lo) s) : wpAny (model prog w) A (Builtin.Slice.sliceApplied (.ref sl) (pure (n : Int))) Q E s := by
  obtain ⟨os, hos, hcs, hds⟩ := id hs
  unfold Builtin.Slice.sliceApplied Builtin.Slice.sliceFields
  refine wpAny_bind (wpAny_bind (wpAny_field hos hds (x := vl) rfl (wpAny_bind (wpAny_field hos hds (x := vu) rfl (wpAny_bind (wpAny_field hos hds (x := .none) rfl (wpAny_pure ?_)))))))
  refine wpAny_bind (slicePart_none ?_)
  show wpAny _ _ (if ((1 : Int) == 0) = true then _ else _) _ _ s
  rw [if_neg (by decide)]
  refine wpAny_bind (slicePart_ pl (wpAny_bind (slicePart_ pu (wpAny_bind (wpAny_pure ?_)))))
  show wpAny _ _ (match Builtin.Slice.sliceAdjust lo hi 1 (n : Int) with | (lo, hi) => pure (lo, (1 : Int), Builtin.Slice.slicePlaces lo hi 1)) _ _ s
  rw [adjust_gen lo hi n]
  show wpAny _ _ (pure (((sIx n 0 lo : Nat) : Int), (1 : Int), Builtin.Slice.slicePlaces ((sIx n 0 lo : Nat) : Int) ((sIx n n hi : Nat) : Int) 1)) _ _ s
  rw [places_gen]
  exact wpAny_pure h
theorem pick_gen (xs : Array Value) (i k : Nat) : ((List.range k).filterMap fun (m : Nat) => xs[((i : Int) + (m : Int) * 1).toNat]?).toArray = ((xs.toList.drop i).take k).toArray := by
  have e : (fun (m : Nat) => xs[((i : Int) + (m : Int) * 1).toNat]?) = fun m => xs[i + m]? := by
    funext m
    have : ((i : Int) + (m : Int) * 1).toNat = i + m := by omega
    rw [this]
  rw [e]
  have := pick_run xs i k
  rw [List.filterMap_map] at this
  have e2 : ((fun x => xs[x]?) ∘ fun x => i + x) = fun m => xs[i + m]? := rfl
  rw [e2] at this
  rw [this]

theorem getItem_tuple_cut {t sl : Addr} {items : Array Value} {vl vu : Value} {lo hi : Option Int} {Q : Value → Shared → Prop} (ht : IsTup s.heap t items) (hs : s.heap.IsSliceOf sl vl vu .none) (pl : IsPart vl lo) (pu : IsPart vu hi)
    (hw : ¬ (sIx items.size 0 lo = 0 ∧ sIx items.size items.size hi = items.size))
    (h : Q (.ref s.heap.objs.size) { s with heap := s.heap.push { cls := .type "tuple", data := .seq ((items.toList.drop (sIx items.size 0 lo)).take (sIx items.size items.size hi - sIx items.size 0 lo)).toArray } })
    (hsz : items.size ≤ sizeLine) : wpAny (model prog w) A (getItem (.ref t) (.ref sl)) Q E s := by
  have htake : sizeOk (.seq ((items.toList.drop (sIx items.size 0 lo)).take (sIx items.size items.size hi - sIx items.size 0 lo)).toArray) := by
    show ((items.toList.drop (sIx items.size 0 lo)).take (sIx items.size items.size hi - sIx items.size 0 lo)).toArray.size ≤ sizeLine
    rw [List.size_toArray, List.length_take, List.length_drop, Array.length_toList]
    omega
  have hj : sIx items.size items.size hi ≤ items.size := sIx_le _ _ (Nat.le_refl _) hi
  obtain ⟨os, hos, hcs, hds⟩ := id hs
  have hTs : s.TypeIs (.ref sl) "slice" := ⟨os, hos, hcs⟩
  unfold getItem
  try with_reducible refine wpAny_holding ?_
  first | refine wpAny_bind (wpAny_pure ?_) | skip
  refine wpAny_bind (wpAny_sequenceKey ht.typeIs (by decide) ?_)
  refine wpAny_bind (wpAny_callSpecial?_slot (name := Str.ofString "__getitem__") ht.typeIs PyProof.Rows.slot_tuple_getitem
    (wpAny_call_entry PyProof.Rows.slot_tuple_getitem ht.typeIs entry_tuple_getitem ?_ (args_tuple_getitem _ _)))
  show wpAny _ _ (Builtin.Tuple.tupleItemsOf (.ref t) >>= _) _ _ s
  refine wpAny_bind (tupleItemsOf_ ht ?_)
  refine wpAny_bind (wpAny_typeOf hTs ?_)
  rw [if_pos (by decide)]
  refine wpAny_bind (sliceApplied_gen hs pl pu ?_)
  have hno : ¬ ((((sIx items.size 0 lo : Nat) : Int) == 0 && (1 : Int) == 1 && (sIx items.size items.size hi - sIx items.size 0 lo) == items.size) = true) := by
    intro q
    rw [Bool.and_eq_true, Bool.and_eq_true] at q
    have q1 : ((sIx items.size 0 lo : Nat) : Int) = 0 := eq_of_beq q.1.1
    have q2 : sIx items.size items.size hi - sIx items.size 0 lo = items.size := eq_of_beq q.2
    exact hw ⟨by omega, by omega⟩
  show wpAny _ _ (if (((sIx items.size 0 lo : Nat) : Int) == 0 && (1 : Int) == 1 && (sIx items.size items.size hi - sIx items.size 0 lo) == items.size) = true then _ else _) _ _ s
  rw [if_neg hno, pick_gen]
  first
    | exact wpAny_bind (m := Builtin.Tuple.tupleExact _) (wpAny_newObj_type (wpAny_pure ⟨_, rfl, wpAny_pure h⟩) htake)
    | exact wpAny_bind (m := Builtin.Tuple.tupleExact _) (wpAny_newObj_type (wpAny_bind (wpAny_pure (wpAny_pure ⟨_, rfl, wpAny_pure h⟩))) htake)
    | exact wpAny_bind (wpAny_bind (m := Builtin.Tuple.tupleExact _) (wpAny_newObj_type (wpAny_pure (wpAny_pure ⟨_, rfl, wpAny_pure h⟩)) htake))
    | exact wpAny_bind (wpAny_bind (m := Builtin.Tuple.tupleExact _) (wpAny_newObj_type (wpAny_pure ⟨_, rfl, wpAny_pure h⟩) htake))
end
end HT

namespace L2
open PySem PySem.Spec PyProof.Rows

/-! ### the parts of a slice -/
abbrev TO := St → Hp → (Option Int → Hp → Prop) → Prop
/-- a slice's part (left out, or an int) -/
def PO (X : Cx) (e : Option Expr) (t : TO) : Prop :=
  ∀ (pins : List (Addr × Obj)) (s : Shared) (σ : St) (H : Hp) (Q : Option Int → Hp → Prop), Inv X pins σ H s → t σ H Q →
    wpAny (model X.prog X.w) X.A (evalPart e X.env) (fun u s' => ∃ o H', Inv X pins σ H' s' ∧ IsPart u o ∧ Q o H') X.xe s
def tNoPart : TO := fun _ H Q => Q none H
def tPart (t : TE) : TO := fun σ H Q => t σ H fun x H1 => ∃ i, x = .int i ∧ Q (some i) H1

theorem intsAre_of {ns : List Int} : ∀ {us : List Value}, Vals (ns.map V.int) us → IntsAre us ns := by
  induction ns with
  | nil => intro us r; rw [List.map_nil] at r; cases r; exact .nil
  | cons n ns ih =>
    intro us r
    rw [List.map_cons] at r
    cases r with
    | cons r1 r2 =>
      obtain ⟨t, e⟩ := r1
      subst e
      exact .cons n t (ih r2)

section
variable {X : Cx} {e : Expr} {te : TE} {lo hi : Option Expr} {tl th : TO} {pos p2 : Pos}

theorem po_none : PO X none tNoPart := by
  intro pins s σ H Q I h
  rw [evalPart_none]
  exact wpAny_pure ⟨none, H, I, .none, h⟩
theorem po_some (h : PE X e te) : PO X (some e) (tPart te) := by
  intro pins s σ H Q I hw
  rw [evalPart_some]
  refine thn (h pins s σ H _ I hw) fun u s1 ⟨x, H1, I1, r1, q1⟩ => ?_
  obtain ⟨i, rfl, q⟩ := q1
  obtain ⟨t, rfl⟩ := r1
  exact ⟨some i, H1, I1, .int i t, q⟩

/-- what a slice of a value is, by values: the slice object stands at sl -/
def SlR (X : Cx) (r : V → Option Int → Option Int → Hp → VK → Prop) : Prop :=
  ∀ (pins : List (Addr × Obj)) (s : Shared) (σ : St) (H : Hp) (x : V) (v vl vu : Value) (lo hi : Option Int) (sl : Addr) (Q : VK), Inv X pins σ H s → RelV x v → s.heap.IsSliceOf sl vl vu .none → IsPart vl lo → IsPart vu hi → r x lo hi H Q →
    ∃ T id, typeLookup (.type T) "__getitem__" = pure (some (.builtin id)) ∧ s.TypeIs v T ∧ wpAny (model X.prog X.w) X.A (getItem v (.ref sl)) (EP X pins σ Q) X.xe s
theorem SlR.or {r r' : V → Option Int → Option Int → Hp → VK → Prop} (h : SlR X r) (h' : SlR X r') : SlR X (fun x lo hi H Q => r x lo hi H Q ∨ r' x lo hi H Q) := by
  intro pins s σ H x v vl vu lo hi sl Q I rx hs pl pu q
  rcases q with q | q
  · exact h pins s σ H x v vl vu lo hi sl Q I rx hs pl pu q
  · exact h' pins s σ H x v vl vu lo hi sl Q I rx hs pl pu q
def tSl (r : V → Option Int → Option Int → Hp → VK → Prop) (te : TE) (tl th : TO) : TE := fun σ H Q => te σ H fun x H1 => tl σ H1 fun l H2 => th σ H2 fun u H3 => r x l u H3 Q
/-- a[lo:hi], any a -/
theorem pe_slice {r : V → Option Int → Option Int → Hp → VK → Prop} (hr : SlR X r) (he : PE X e te) (hl : PO X lo tl) (hu : PO X hi th) : PE X (.Subscript e (.Slice lo hi none p2) pos) (tSl r te tl th) := by
  intro pins s σ H Q I h
  refine Subscript_ (thn (he pins s σ H _ I h) fun v s1 ⟨x, H1, I1, r1, q1⟩ => ?_)
  refine wpAny_Slice (thn (hl pins s1 σ H1 _ I1 q1) fun vl s2 ⟨l, H2, I2, pl, q2⟩ => thn (hu pins s2 σ H2 _ I2 q2) fun vu s3 ⟨u, H3, I3, pu, q3⟩ => ?_)
  rw [evalPart_none]
  refine wpAny_pure ?_
  have I4 : Inv X pins σ H3 { s3 with heap := s3.heap.push { cls := .type "slice", data := .fields #[vl, vu, .none] } } := I3.kept (t' := s3.toks) fun b ob q => Heap.get?_push_of_some _ q
  obtain ⟨T, id, hT, ht, hg⟩ := hr pins { s3 with heap := s3.heap.push { cls := .type "slice", data := .fields #[vl, vu, .none] } } σ H3 x v vl vu l u s3.heap.objs.size Q I4 r1 (Heap.IsSliceOf.new ..) pl pu q3
  show wpAny (model X.prog X.w) X.A (subscriptTail e (.Slice lo hi none p2) v (.ref s3.heap.objs.size)) (EP X pins σ Q) X.xe { s3 with heap := s3.heap.push { cls := .type "slice", data := .fields #[vl, vu, .none] } }
  exact tail_any (ops := [.ref s3.heap.objs.size, v]) ht hT hg (by with_unfolding_all rfl)

/-- the items of xs[lo:hi] -/
def cutV (xs : List V) (lo hi : Option Int) : List V := (xs.drop (HT.sIx xs.length 0 lo)).take (HT.sIx xs.length xs.length hi - HT.sIx xs.length 0 lo)
theorem cutV_length (xs : List V) (lo hi : Option Int) : (cutV xs lo hi).length ≤ xs.length := by
  unfold cutV
  rw [List.length_take, List.length_drop]
  omega
/-- t[lo:hi], not the whole of it (the whole would be t itself) -/
def rSlT (K : PySem.W.Frag) : V → Option Int → Option Int → Hp → VK → Prop := fun x lo hi H Q => ∃ a xs, x = .ref a ∧ SqT K H a xs ∧
  ¬ (HT.sIx xs.length 0 lo = 0 ∧ HT.sIx xs.length xs.length hi = xs.length) ∧ ∀ p, H p = none → Q (.ref p) (upd H p (.tup (cutV xs lo hi)))
theorem sl_tup : SlR X (rSlT X.K) := by
  intro pins s σ H x v vl vu lo hi sl Q I rx hs pl pu h
  obtain ⟨a, xs, rfl, hx, hw, q⟩ := h
  cases rx
  obtain ⟨its, r, ht, hz⟩ := I.tuple hx
  have hlen : its.toArray.size = xs.length := by rw [List.size_toArray]; exact r.length.symm
  refine ⟨"tuple", _, PyProof.Rows.slot_tuple_getitem.lookup, ht.typeIs, ?_⟩
  refine HT.getItem_tuple_cut ht hs pl pu (by rw [hlen]; exact hw) ?_ (by rw [hlen]; exact hz)
  rw [hlen]
  refine ⟨.ref s.heap.objs.size, _, I.laid (t' := s.toks) (o := .tup (cutV xs lo hi)) (fun b ob q => Heap.get?_push_of_some _ q) (Nat.le_refl _) ?_, rfl, q _ (I.hok.fresh (Nat.le_refl _))⟩
  exact ⟨Nat.le_trans (cutV_length xs lo hi) hz, _, (r.drop (HT.sIx xs.length 0 lo)).take (HT.sIx xs.length xs.length hi - HT.sIx xs.length 0 lo), IsTup.new _ _⟩

/-! ### t < u, t + u -/
def rLtT (K : PySem.W.Frag) : R2 := fun x y H Q => ∃ a b ns ms, x = .ref a ∧ y = .ref b ∧ SqT K H a (ns.map V.int) ∧ SqT K H b (ms.map V.int) ∧ Q (.bl (HT.lexLt ns ms)) H
theorem op_ltT (hu : X.A.units < cLine) : OpR X (compareOp .Lt) (rLtT X.K) := by
  intro pins s σ H x y v u Q I rx ry h
  obtain ⟨a, b, ns, ms, rfl, rfl, ha, hb, q⟩ := h
  cases rx
  cases ry
  obtain ⟨its, r1, p1, _⟩ := I.tuple ha
  obtain ⟨its2, r2, p2, _⟩ := I.tuple hb
  have i1 : IntsAre its.toArray.toList ns := intsAre_of r1
  have i2 : IntsAre its2.toArray.toList ms := intsAre_of r2
  exact HT.lt_tupInts p1 p2 i1 i2 hu ⟨.bl (HT.lexLt ns ms), H, I, rfl, q⟩
/-- t + u, t not empty: u empty gives t itself -/
def rCatT (K : PySem.W.Frag) : R2 := fun x y H Q => ∃ a b xs ys, x = .ref a ∧ y = .ref b ∧ SqT K H a xs ∧ SqT K H b ys ∧ xs ≠ [] ∧ xs.length + ys.length ≤ sizeLine ∧
  (ys = [] → Q (.ref a) H) ∧ (ys ≠ [] → ∀ p, H p = none → Q (.ref p) (upd H p (.tup (xs ++ ys))))
theorem Vals.nil_iff {xs : List V} {us : List Value} (r : Vals xs us) : us = [] ↔ xs = [] := by
  cases r with
  | nil => simp
  | cons _ _ => simp
theorem op_catT : OpR X (binaryOp .Add) (rCatT X.K) := by
  intro pins s σ H x y v u Q I rx ry h
  obtain ⟨a, b, xs, ys, rfl, rfl, ha, hb, hx, hz, q1, q2⟩ := h
  cases rx
  cases ry
  obtain ⟨its, r1, p1, _⟩ := I.tuple ha
  obtain ⟨its2, r2, p2, _⟩ := I.tuple hb
  refine HT.cat_tup p1 p2 (fun z => hx (r1.nil_iff.mp z)) (fun z => ⟨.ref a, H, I, rfl, q1 (r2.nil_iff.mp z)⟩) (fun z => ?_) (by rw [← r1.length, ← r2.length]; exact hz)
  refine ⟨.ref s.heap.objs.size, _, I.laid (t' := s.toks) (o := .tup (xs ++ ys)) (fun b ob q => Heap.get?_push_of_some _ q) (Nat.le_refl _) ?_, rfl, q2 (fun w => z (r2.nil_iff.mpr w)) _ (I.hok.fresh (Nat.le_refl _))⟩
  exact ⟨by rw [List.length_append]; exact hz, _, r1.append r2, IsTup.new _ _⟩
/-- tuple(t) -/
theorem call_tupleT : CallR X (.type "tuple") (fun xs H Q => ∃ a ys, xs = [.ref a] ∧ SqT X.K H a ys ∧ Q (.ref a) H) := by
  intro pins s σ H xs us Q I r h
  obtain ⟨a, ys, rfl, ha, q⟩ := h
  obtain ⟨u, rfl, ru⟩ := vals1 r
  cases ru
  obtain ⟨its, _, p1, _⟩ := I.tuple ha
  exact call_tuple_same (items := its.toArray) p1 ⟨.ref a, H, I, rfl, q⟩
end
end L2

namespace L2
open PySem PySem.Spec PyProof.Rows

/-! ### places -/
/-- the place that an index of any sign means -/
def ixN (n : Nat) (i : Int) : Option Nat := if 0 ≤ i then (if i < n then some i.toNat else none) else if -(n : Int) ≤ i then some (i + n).toNat else none
def atI {α : Type} (xs : List α) (i : Int) : Option α := (ixN xs.length i).bind fun j => xs[j]?
theorem ixN_seq {n : Nat} {i : Int} {j : Nat} (h : ixN n i = some j) : seqIndex? i n = some j ∧ j < n ∧ -(n : Int) ≤ i ∧ i < n := by
  unfold ixN at h
  by_cases h0 : 0 ≤ i
  · rw [if_pos h0] at h
    by_cases h1 : i < n
    · rw [if_pos h1] at h
      have e : i.toNat = j := Option.some.inj h
      exact ⟨by rw [seqIndex_of h0 h1, e], by omega, by omega, h1⟩
    · rw [if_neg h1] at h; cases h
  · rw [if_neg h0] at h
    by_cases h1 : -(n : Int) ≤ i
    · rw [if_pos h1] at h
      have e : (i + n).toNat = j := Option.some.inj h
      exact ⟨by rw [seqIndex_neg (by omega) h1, e], by omega, h1, by omega⟩
    · rw [if_neg h1] at h; cases h
theorem atI_get {α : Type} {xs : List α} {i : Int} {v : α} (h : atI xs i = some v) : ∃ j, seqIndex? i xs.length = some j ∧ xs[j]? = some v ∧ j < xs.length ∧ -(xs.length : Int) ≤ i ∧ i < xs.length := by
  unfold atI at h
  cases e : ixN xs.length i with
  | none => rw [e] at h; cases h
  | some j =>
    rw [e] at h
    obtain ⟨h1, h2, h3, h4⟩ := ixN_seq e
    exact ⟨j, h1, h, h2, h3, h4⟩
theorem atI_nat {α : Type} {xs : List α} {j : Nat} {v : α} (h : xs[j]? = some v) : atI xs (j : Int) = some v := by
  have hj : j < xs.length := (List.getElem?_eq_some_iff.mp h).1
  have e : ixN xs.length (j : Int) = some j := by
    unfold ixN
    rw [if_pos (by omega), if_pos (by omega)]; simp
  unfold atI; rw [e]; exact h
theorem atI_last {α : Type} (xs : List α) (v : α) : atI (xs ++ [v]) (-1) = some v := by
  have hl : (xs ++ [v]).length = xs.length + 1 := by simp
  have e : ixN (xs ++ [v]).length (-1) = some xs.length := by
    unfold ixN
    rw [hl, if_neg (by decide), if_pos (by omega)]
    congr 1
    omega
  unfold atI
  rw [e]
  show (xs ++ [v])[xs.length]? = some v
  simp

/-! ### what may be subscripted -/
/-- what stands as an index of a plain subscript -/
def PlainIx (b : Expr) : Prop := ∀ o i, subscripted b false o i = operate [o, i] (getItem o i)
/-- a subscript by values -/
def IxR (X : Cx) (r : R2) : Prop :=
  ∀ (value slice : Expr) (pins : List (Addr × Obj)) (s : Shared) (σ : St) (H : Hp) (x y : V) (v u : Value) (Q : VK), Inv X pins σ H s → RelV x v → RelV y u → r x y H Q →
    subscripted slice false v u = operate [v, u] (getItem v u) → wpAny (model X.prog X.w) X.A (subscriptTail value slice v u) (EP X pins σ Q) X.xe s
/-- a call of a builtin's method by values: the receiver, the arguments -/
def MtR (X : Cx) (id : String) (r : V → List V → Hp → VK → Prop) : Prop :=
  ∀ (pins : List (Addr × Obj)) (s : Shared) (σ : St) (H : Hp) (x : V) (xs : List V) (v : Value) (us : List Value) (Q : VK), Inv X pins σ H s → RelV x v → Vals xs us → r x xs H Q →
    wpAny (model X.prog X.w) X.A (call (.builtin id) (v :: us)) (EP X pins σ Q) X.xe s
section
variable {X : Cx} {a b : Expr} {ta tb : TE} {pos : Pos}
theorem IxR.or {r r' : R2} (h : IxR X r) (h' : IxR X r') : IxR X (fun x y H Q => r x y H Q ∨ r' x y H Q) := by
  intro value slice pins s σ H x y v u Q I rx ry q hs
  rcases q with q | q
  · exact h value slice pins s σ H x y v u Q I rx ry q hs
  · exact h' value slice pins s σ H x y v u Q I rx ry q hs
theorem MtR.or {id : String} {r r' : V → List V → Hp → VK → Prop} (h : MtR X id r) (h' : MtR X id r') : MtR X id (fun x xs H Q => r x xs H Q ∨ r' x xs H Q) := by
  intro pins s σ H x xs v us Q I rx rs q
  rcases q with q | q
  · exact h pins s σ H x xs v us Q I rx rs q
  · exact h' pins s σ H x xs v us Q I rx rs q
/-- a[b] -/
theorem pe_ix {r : R2} (hr : IxR X r) (ha : PE X a ta) (hb : PE X b tb) (hs : PlainIx b) : PE X (.Subscript a b pos) (tOp r ta tb) := by
  intro pins s σ H Q I h
  exact Subscript_ (binT ha hb I h fun v u s2 x y H2 I2 rx ry q => hr a b pins s2 σ H2 x y v u Q I2 rx ry q (hs _ _))

def rIxL (K : PySem.W.Frag) : R2 := fun x y H Q => ∃ p xs i v, x = .ref p ∧ y = .int i ∧ SqL K H p xs ∧ atI xs i = some v ∧ Q v H
def rIxT (K : PySem.W.Frag) : R2 := fun x y H Q => ∃ p xs i v, x = .ref p ∧ y = .int i ∧ SqT K H p xs ∧ atI xs i = some v ∧ Q v H
def rIxS : R2 := fun x y H Q => ∃ z i c, x = .str z ∧ y = .int i ∧ z.length ≤ sizeLine ∧ atI z.cps.toList i = some c ∧ Q (.str ⟨#[c]⟩) H
theorem ix_list : IxR X (rIxL X.K) := by
  intro value slice pins s σ H x y v u Q I rx ry h hs
  obtain ⟨p, xs, i, z, rfl, rfl, hq, he, q⟩ := h
  cases rx
  obtain ⟨t, rfl⟩ := ry
  obtain ⟨its, r, pl, hz⟩ := I.list hq
  obtain ⟨j, h1, h2, h3, h4, h5⟩ := atI_get he
  obtain ⟨w, ew, rw'⟩ := r.get h2
  have hl := r.length
  have hn := line63
  have fin : EP X pins σ Q w s := ⟨z, H, I, rw', q⟩
  by_cases h0 : 0 ≤ i
  · have hj : i.toNat = j := by
      rw [seqIndex_of h0 h5] at h1
      exact Option.some.inj h1
    exact item_listR pl.isList h0 (by omega) (by rw [hj]; simpa using ew) fin hs
  · have hj : (i + (its.toArray.size : Int)).toNat = j := by
      rw [seqIndex_neg (by omega) h4] at h1
      rw [List.size_toArray, ← hl]
      exact Option.some.inj h1
    exact subscriptTail_builtinR (x := w) pl.isList.typeIs slot_list_getitem.lookup
      (wpAny_getItem_list_neg (Q := fun r s' => r = w ∧ EP X pins σ Q r s') pl.isList (by omega) (by rw [List.size_toArray] <;> omega) (by omega) (by rw [hj]; simpa using ew) ⟨rfl, fin⟩) hs
theorem ix_tup : IxR X (rIxT X.K) := by
  intro value slice pins s σ H x y v u Q I rx ry h hs
  obtain ⟨p, xs, i, z, rfl, rfl, hq, he, q⟩ := h
  cases rx
  obtain ⟨t, rfl⟩ := ry
  obtain ⟨its, r, pl, hz⟩ := I.tuple hq
  obtain ⟨j, h1, h2, h3, h4, h5⟩ := atI_get he
  obtain ⟨w, ew, rw'⟩ := r.get h2
  have hl := r.length
  have hn := line63
  have fin : EP X pins σ Q w s := ⟨z, H, I, rw', q⟩
  exact subscriptTail_builtinR (x := w) pl.typeIs slot_tuple_getitem.lookup
    (getItem_tuple (j := j) (Q := fun r s' => r = w ∧ EP X pins σ Q r s') pl (by omega) (by omega) (by rw [List.size_toArray, ← hl]; exact h1) (by simpa using ew) ⟨rfl, fin⟩) hs
theorem ix_str : IxR X rIxS := by
  intro value slice pins s σ H x y v u Q I rx ry h hs
  obtain ⟨z, i, c, rfl, rfl, hz, he, q⟩ := h
  obtain ⟨t, rfl⟩ := rx
  obtain ⟨t', rfl⟩ := ry
  obtain ⟨j, h1, h2, h3, h4, h5⟩ := atI_get he
  have hl : z.cps.toList.length = z.length := by simp [Str.length]
  rw [hl] at h1 h4 h5
  have hn := line63
  exact tail_any (typeIs_str s z t) slot_str_getitem.lookup (getItem_str (c := c) (by
    have e1 : decide (i < -(2 ^ 63 : Int)) = false := decide_eq_false (by omega)
    have e2 : decide (i ≥ 2 ^ 63) = false := decide_eq_false (by omega)
    rw [e1, e2, Bool.or_false]) (by rw [h1]; simpa using h2) ⟨.str ⟨#[c]⟩, H, I.tok _, ⟨_, rfl⟩, q⟩) hs
/-- list, tuple or str -/
def rIx (K : PySem.W.Frag) : R2 := fun x y H Q => rIxL K x y H Q ∨ rIxT K x y H Q ∨ rIxS x y H Q
theorem ix_seq : IxR X (rIx X.K) := ix_list.or (ix_tup.or ix_str)

/-! ### xs[i] = v, any sign -/
/-- the list's object behind a store -/
theorem mapSeq_set (its : List Value) (n j : Nat) (u : Value) : Obj.mapSeq (·.setIfInBounds j u) { cls := .type "list", data := .seq its.toArray n } = { cls := .type "list", data := .seq (its.set j u).toArray n } := by
  simp [Obj.mapSeq]
theorem Inv.lst {pins : List (Addr × Obj)} {σ : St} {H : Hp} {s : Shared} {p : Addr} {xs : List V} (I : Inv X pins σ H s) (h : H p = some (.lst xs)) :
    ∃ (its : List Value) (n : Nat), Vals xs its ∧ s.heap.get? p = some { cls := .type "list", data := .seq its.toArray n } ∧ xs.length ≤ sizeLine := by
  obtain ⟨z, its, n, r, e⟩ := I.hok p _ h
  exact ⟨its, n, r, e, z⟩
/-- the list at p is written by an update of its object -/
theorem Inv.lstUpd {pins : List (Addr × Obj)} {σ : St} {H : Hp} {s : Shared} {p : Addr} {xs ys : List V} {its its' : List Value} {n n' : Nat} {f : Obj → Obj} (I : Inv X pins σ H s) (h : H p = some (.lst xs))
    (ho : s.heap.get? p = some { cls := .type "list", data := .seq its.toArray n }) (hf : f { cls := .type "list", data := .seq its.toArray n } = { cls := .type "list", data := .seq its'.toArray n' }) (r : Vals ys its') (hz : ys.length ≤ sizeLine) (t : Nat) :
    Inv X pins σ (upd H p (.lst ys)) { s with heap := s.heap.update p f, toks := t } := by
  have e : (s.heap.update p f).get? p = some { cls := .type "list", data := .seq its'.toArray n' } := by
    rw [Heap.get?_update_self f ho (by rw [hf] <;> rfl), hf]
  refine I.write (x := p) (e := p) (by rw [h]; trivial) (.inl rfl) (fun b u hb q => (Heap.get?_update_other _ _ (Ne.symm hb)).trans q) ⟨_, e⟩ ?_
  exact ⟨hz, its', n', r, e⟩
def rSetL : V → V → V → Hp → (Hp → Prop) → Prop := fun o i v H Q => ∃ p xs k j, o = .ref p ∧ i = .int k ∧ H p = some (.lst xs) ∧ ixN xs.length k = some j ∧ Q (upd H p (.lst (xs.set j v)))
theorem set_list : PSet X rSetL := by
  intro pins s σ H o i v ov iv u Q I ro ri rv h
  obtain ⟨p, xs, k, j, rfl, rfl, hp, hj, q⟩ := h
  cases ro
  obtain ⟨t, rfl⟩ := ri
  obtain ⟨its, n, r, ho, hz⟩ := I.lst hp
  obtain ⟨h1, h2, h3, h4⟩ := ixN_seq hj
  have hl := r.length
  have hn := line63
  have I' : Inv X pins σ (upd H p (.lst (xs.set j v))) { s with heap := s.heap.update p (Obj.mapSeq (·.setIfInBounds j u)) } :=
    I.lstUpd hp ho (mapSeq_set its n j u) (r.set rv j) (by rw [List.length_set]; exact hz) s.toks
  by_cases h0 : 0 ≤ k
  · have hk : k.toNat = j := by
      rw [seqIndex_of h0 h4] at h1
      exact Option.some.inj h1
    exact PySem.W.ki_setAt ho h0 (by omega) (by rw [List.size_toArray, ← hl]; exact h4) (by rw [hk]; exact ⟨_, I', q⟩)
  · have hk : (k + (its.toArray.size : Int)).toNat = j := by
      rw [seqIndex_neg (by omega) h3] at h1
      rw [List.size_toArray, ← hl]
      exact Option.some.inj h1
    exact PySem.W.ki_setBack ho (by omega) (by rw [List.size_toArray, ← hl]; exact h3) (by omega) (by rw [hk]; exact ⟨_, I', q⟩)

/-! ### slices -/
theorem slice_bounds (lo hi : Option Int) (n : Nat) : (sliceBounds lo hi none n).1 = ((HT.sIx n 0 lo : Nat) : Int) ∧ (sliceBounds lo hi none n).2.1 = ((HT.sIx n n hi : Nat) : Int) ∧ (sliceBounds lo hi none n).2.2 = 1 := by
  refine ⟨?_, ?_, rfl⟩
  · cases lo with
    | none => simp [sliceBounds, HT.sIx]
    | some i =>
      simp only [sliceBounds, HT.sIx, Option.getD_none, show (1 : Int) > 0 by decide, if_true]
      by_cases h : i < 0
      · simp only [h, if_true] <;> omega
      · simp only [h, if_false] <;> omega
  · cases hi with
    | none => simp [sliceBounds, HT.sIx]
    | some i =>
      simp only [sliceBounds, HT.sIx, Option.getD_none, show (1 : Int) > 0 by decide, if_true]
      by_cases h : i < 0
      · simp only [h, if_true] <;> omega
      · simp only [h, if_false] <;> omega
theorem slicePick_cut (its : List Value) (lo hi : Option Int) : slicePick its.toArray lo hi none = ((its.drop (HT.sIx its.length 0 lo)).take (HT.sIx its.length its.length hi - HT.sIx its.length 0 lo)).toArray := by
  obtain ⟨h1, h2, h3⟩ := slice_bounds lo hi its.toArray.size
  unfold slicePick
  rw [h1, h2, h3]
  simp only [sliceRange_one, pick_run, List.size_toArray] <;> rfl
/-- xs[lo:hi] of a list: a new list -/
def rSlL (K : PySem.W.Frag) : V → Option Int → Option Int → Hp → VK → Prop := fun x lo hi H Q => ∃ a xs, x = .ref a ∧ SqL K H a xs ∧ ∀ p, H p = none → Q (.ref p) (upd H p (.lst (cutV xs lo hi)))
theorem sl_list : SlR X (rSlL X.K) := by
  intro pins s σ H x v vl vu lo hi sl Q I rx hs pl pu h
  obtain ⟨a, xs, rfl, hx, q⟩ := h
  cases rx
  obtain ⟨its, r, ht, hz⟩ := I.list hx
  have hlen := r.length
  refine ⟨"list", _, slot_list_getitem.lookup, ht.isList.typeIs, ?_⟩
  refine wpAny_getItem_list_slice ht.isList hs pl pu .none (by simp) ?_ (by rw [List.size_toArray] <;> omega)
  rw [slicePick_cut, ← hlen]
  refine ⟨.ref s.heap.objs.size, _, I.laid (t' := s.toks) (o := .lst (cutV xs lo hi)) (fun b ob q => Heap.get?_push_of_some _ q) (Nat.le_refl _) ?_, rfl, q _ (I.hok.fresh (Nat.le_refl _))⟩
  exact ⟨Nat.le_trans (cutV_length xs lo hi) hz, _, 0, (r.drop (HT.sIx xs.length 0 lo)).take (HT.sIx xs.length xs.length hi - HT.sIx xs.length 0 lo), Heap.get?_push_size _ rfl⟩

/-! ### in, not in: flat items -/
def flatV : V → Bool
  | .non => true
  | .bl _ => true
  | .int _ => true
  | .str _ => true
  | _ => false
/-- == of flat values -/
def eqV : V → V → Bool
  | .non, .non => true
  | .bl a, .bl b => a == b
  | .bl a, .int b => (if a then 1 else 0) == b
  | .int a, .bl b => a == (if b then 1 else 0)
  | .int a, .int b => a == b
  | .str a, .str b => a == b
  | _, _ => false
theorem eqAt_V {A : Around} {s : Shared} {y x : V} {u v : Value} (ry : RelV y u) (rx : RelV x v) (fy : flatV y = true) (fx : flatV x = true) : SeqAt.EqAt A s u v (eqV y x) := by
  cases y with
  | non =>
    cases ry
    cases x with
    | non => cases rx; exact SeqAt.EqAt.same _
    | bl b => cases rx; exact SeqAt.EqAt.none_bool b
    | int b => obtain ⟨t, rfl⟩ := rx; exact SeqAt.EqAt.none_int b t
    | str b => obtain ⟨t, rfl⟩ := rx; exact SeqAt.EqAt.none_str b t
    | _ => exact absurd (show false = true from fx) Bool.false_ne_true
  | bl a =>
    cases ry
    cases x with
    | non => cases rx; exact SeqAt.EqAt.bool_none a
    | bl b => cases rx; exact SeqAt.EqAt.bool_bool a b
    | int b => obtain ⟨t, rfl⟩ := rx; exact SeqAt.EqAt.bool_int a b t
    | str b => obtain ⟨t, rfl⟩ := rx; exact SeqAt.EqAt.bool_str a b t
    | _ => exact absurd (show false = true from fx) Bool.false_ne_true
  | int a =>
    obtain ⟨t', rfl⟩ := ry
    cases x with
    | non => cases rx; exact SeqAt.EqAt.int_none a t'
    | bl b => cases rx; exact SeqAt.EqAt.int_bool a t' b
    | int b => obtain ⟨t, rfl⟩ := rx; exact SeqAt.EqAt.int_int a t' b t
    | str b => obtain ⟨t, rfl⟩ := rx; exact SeqAt.EqAt.int_str a t' b t
    | _ => exact absurd (show false = true from fx) Bool.false_ne_true
  | str a =>
    obtain ⟨t', rfl⟩ := ry
    cases x with
    | non => cases rx; exact SeqAt.EqAt.str_none a t'
    | bl b => cases rx; exact SeqAt.EqAt.str_bool a t' b
    | int b => obtain ⟨t, rfl⟩ := rx; exact SeqAt.EqAt.str_int a t' b t
    | str b => obtain ⟨t, rfl⟩ := rx; exact SeqAt.EqAt.str_str a t' b t
    | _ => exact absurd (show false = true from fx) Bool.false_ne_true
  | _ => exact absurd (show false = true from fy) Bool.false_ne_true
/-- the items' answers, read off the values (a value's own answer does not lean on its token) -/
def eqU (x : V) (u : Value) : Bool := match u with
  | .none => eqV .non x
  | .bool b => eqV (.bl b) x
  | .int i _ => eqV (.int i) x
  | .str z _ => eqV (.str z) x
  | _ => false
theorem eqU_of {x y : V} {u : Value} (r : RelV y u) (f : flatV y = true) : eqU x u = eqV y x := by
  cases y with
  | non => cases r; rfl
  | bl b => cases r; rfl
  | int i => obtain ⟨t, rfl⟩ := r; rfl
  | str z => obtain ⟨t, rfl⟩ := r; rfl
  | _ => exact absurd (show false = true from f) Bool.false_ne_true
theorem any_eqU {x : V} : ∀ {xs : List V} {us : List Value}, Vals xs us → xs.all flatV = true → us.any (eqU x) = xs.any fun y => eqV y x
  | _, _, .nil, _ => rfl
  | y :: xs, u :: us, .cons r t, f => by
    rw [List.all_cons, Bool.and_eq_true] at f
    rw [List.any_cons, List.any_cons, eqU_of r f.1, any_eqU t f.2]
theorem mem_eqAt {A : Around} {s : Shared} {x : V} {v : Value} (rx : RelV x v) (fx : flatV x = true) : ∀ {xs : List V} {us : List Value}, Vals xs us → xs.all flatV = true → ∀ u ∈ us, SeqAt.EqAt A s u v (eqU x u)
  | _, _, .nil, _ => fun u hu => by cases hu
  | y :: xs, u :: us, .cons r t, f => fun u' hu => by
    rw [List.all_cons, Bool.and_eq_true] at f
    rcases List.mem_cons.mp hu with rfl | hu
    · rw [eqU_of r f.1]; exact eqAt_V r rx f.1 fx
    · exact mem_eqAt rx fx t f.2 u' hu
def inV (x : V) (xs : List V) : Bool := xs.any fun y => eqV y x
/-- x in a list or tuple of flat items -/
def rIn (K : PySem.W.Frag) (neg : Bool) : R2 := fun x y H Q => ∃ p xs, y = .ref p ∧ (SqL K H p xs ∨ SqT K H p xs) ∧ flatV x = true ∧ xs.all flatV = true ∧ Q (.bl (if neg then !inV x xs else inV x xs)) H
theorem op_in_seq : OpR X (compareOp .In) (rIn X.K false) := by
  intro pins s σ H x y v u Q I rx ry h
  obtain ⟨p, xs, rfl, hq, fx, fs, q⟩ := h
  cases ry
  rcases hq with hq | hq
  · obtain ⟨its, r, pl, hz⟩ := I.list hq
    refine SeqAt.in_listAt (eqU x) pl.isList (fun w hw => mem_eqAt rx fx r fs w (by simpa using hw)) ⟨.bl _, H, I, rfl, ?_⟩
    rw [show its.toArray.any (eqU x) = its.any (eqU x) by simp, any_eqU r fs]
    exact q
  · obtain ⟨its, r, pl, hz⟩ := I.tuple hq
    refine SeqAt.in_tupleAt (eqU x) pl (fun w hw => mem_eqAt rx fx r fs w (by simpa using hw)) ⟨.bl _, H, I, rfl, ?_⟩
    rw [show its.toArray.any (eqU x) = its.any (eqU x) by simp, any_eqU r fs]
    exact q
theorem op_notIn_seq : OpR X (compareOp .NotIn) (rIn X.K true) := by
  intro pins s σ H x y v u Q I rx ry h
  obtain ⟨p, xs, rfl, hq, fx, fs, q⟩ := h
  cases ry
  rcases hq with hq | hq
  · obtain ⟨its, r, pl, hz⟩ := I.list hq
    refine SeqAt.notIn_listAt (eqU x) pl.isList (fun w hw => mem_eqAt rx fx r fs w (by simpa using hw)) ⟨.bl _, H, I, rfl, ?_⟩
    rw [show its.toArray.any (eqU x) = its.any (eqU x) by simp, any_eqU r fs]
    exact q
  · obtain ⟨its, r, pl, hz⟩ := I.tuple hq
    refine SeqAt.notIn_tupleAt (eqU x) pl (fun w hw => mem_eqAt rx fx r fs w (by simpa using hw)) ⟨.bl _, H, I, rfl, ?_⟩
    rw [show its.toArray.any (eqU x) = its.any (eqU x) by simp, any_eqU r fs]
    exact q
theorem op_notIn_str : OpR X (compareOp .NotIn) (fun x y H Q => ∃ i j, x = .str i ∧ y = .str j ∧ Q (.bl (!(!(Builtin.Str.occurrences j i 0 j.length 1).isEmpty))) H) := by
  intro pins s σ H x y v u Q I rx ry h
  obtain ⟨i, j, rfl, rfl, q⟩ := h
  obtain ⟨t, rfl⟩ := rx
  obtain ⟨t', rfl⟩ := ry
  exact notIn_str ⟨.bl _, H, I, rfl, q⟩

/-! ### len, list(x), tuple(x) of any list or tuple that is read -/
theorem call_len_seq : CallR X (.builtin "len") (fun xs H Q => ∃ p ys, xs = [.ref p] ∧ (SqL X.K H p ys ∨ SqT X.K H p ys) ∧ Q (.int ys.length) H) := by
  intro pins s σ H xs us Q I r h
  obtain ⟨p, ys, rfl, hq, q⟩ := h
  obtain ⟨u, rfl, rx⟩ := vals1 r
  cases rx
  have hn := line63
  rcases hq with hq | hq
  · obtain ⟨its, r', pl, hz⟩ := I.list hq
    have hlen := r'.length
    exact Calls.call_len_list pl.isList (by simp only [List.size_toArray] <;> omega) ⟨.int ys.length, H, I.tok _, ⟨s.toks + 1, by rw [List.size_toArray, hlen]⟩, q⟩
  · obtain ⟨its, r', pl, hz⟩ := I.tuple hq
    have hlen := r'.length
    exact len_tuple pl (by simp only [List.size_toArray] <;> omega) ⟨.int ys.length, H, I.tok _, ⟨s.toks + 1, by rw [List.size_toArray, hlen]⟩, q⟩
theorem call_len_str : CallR X (.builtin "len") (fun xs H Q => ∃ z, xs = [.str z] ∧ z.length ≤ sizeLine ∧ Q (.int z.length) H) := by
  intro pins s σ H xs us Q I r h
  obtain ⟨z, rfl, hz, q⟩ := h
  obtain ⟨u, rfl, t, rfl⟩ := vals1 r
  have hn := line63
  exact len_str (by omega) ⟨.int z.length, H, I.tok _, ⟨_, rfl⟩, q⟩
theorem CallR.or {f : Value} {r r' : List V → Hp → VK → Prop} (h : CallR X f r) (h' : CallR X f r') : CallR X f (fun xs H Q => r xs H Q ∨ r' xs H Q) := by
  intro pins s σ H xs us Q I rs q
  rcases q with q | q
  · exact h pins s σ H xs us Q I rs q
  · exact h' pins s σ H xs us Q I rs q
theorem call_list_of : CallR X (.type "list") (fun xs H Q => ∃ p ys, xs = [.ref p] ∧ (SqL X.K H p ys ∨ SqT X.K H p ys) ∧ ∀ l, H l = none → Q (.ref l) (upd H l (.lst ys))) := by
  intro pins s σ H xs us Q I r h
  obtain ⟨p, ys, rfl, hq, q⟩ := h
  obtain ⟨u, rfl, rx⟩ := vals1 r
  cases rx
  have fin : ∀ (its : List Value), Vals ys its → ys.length ≤ sizeLine → ∀ (h' : Heap) (c' : Nat), (∀ b o', s.heap.get? b = some o' → h'.get? b = some o') →
      h'.get? s.heap.objs.size = some { cls := .type "list", dict := none, data := .seq its.toArray c', slots := #[] } → EP X pins σ Q (.ref s.heap.objs.size) { s with heap := h' } := fun its r' hz h' c' kp e =>
    ⟨.ref s.heap.objs.size, _, I.laid (t' := s.toks) kp (Nat.le_refl _) (show ObjOk X.prog X.w _ h' _ (.lst ys) from ⟨hz, its, c', r', e⟩), rfl, q _ (I.hok.fresh (Nat.le_refl _))⟩
  rcases hq with hq | hq
  · obtain ⟨its, r', pl, hz⟩ := I.list hq
    have hlen := r'.length
    obtain ⟨o, ho, hc, n, hd⟩ := pl.isList
    exact call_list_seq p (.inl rfl) ho hc hd (fun h' c' kp e => fin its r' hz h' c' kp e) (by simp only [List.size_toArray] <;> omega)
  · obtain ⟨its, r', pl, hz⟩ := I.tuple hq
    have hlen := r'.length
    obtain ⟨o, ho, hc, n, hd⟩ := pl
    exact call_list_seq p (.inr rfl) ho hc hd (fun h' c' kp e => fin its r' hz h' c' kp e) (by simp only [List.size_toArray] <;> omega)
theorem call_tuple_of : CallR X (.type "tuple") (fun xs H Q => ∃ p ys, xs = [.ref p] ∧ ((SqL X.K H p ys ∧ ∀ l, H l = none → Q (.ref l) (upd H l (.tup ys))) ∨ (SqT X.K H p ys ∧ Q (.ref p) H))) := by
  intro pins s σ H xs us Q I r h
  obtain ⟨p, ys, rfl, h⟩ := h
  obtain ⟨u, rfl, rx⟩ := vals1 r
  cases rx
  rcases h with ⟨hq, q⟩ | ⟨hq, q⟩
  · obtain ⟨its, r', pl, hz⟩ := I.list hq
    have hlen := r'.length
    refine call_tuple_list pl.isList (fun h' kp => ?_) (by simp only [List.size_toArray] <;> omega)
    have I1 : Inv X pins σ H { s with heap := h' } := I.kept (t' := s.toks) kp
    have I2 : Inv X pins σ (upd H h'.objs.size (.tup ys)) { s with heap := h'.push { cls := .type "tuple", data := .seq its.toArray } } :=
      I1.laid (t' := s.toks) (fun b o e => Heap.get?_push_of_some _ e) (Nat.le_refl _) (show ObjOk X.prog X.w _ _ _ (.tup ys) from ⟨hz, its, r', IsTup.new _ _⟩)
    exact ⟨.ref h'.objs.size, _, I2, rfl, q _ (I1.hok.fresh (Nat.le_refl _))⟩
  · obtain ⟨its, r', pl, hz⟩ := I.tuple hq
    exact call_tuple_same pl ⟨.ref p, H, I, rfl, q⟩

/-! ### the call of a builtin's method: o.m(..) -/
/-- the value is of that builtin type -/
def tyV (K : PySem.W.Frag) (T : String) (x : V) (H : Hp) : Prop := match x with
  | .str _ => T = "str"
  | .int _ => T = "int"
  | .ref p => (T = "list" ∧ ∃ xs, SqL K H p xs) ∨ (T = "tuple" ∧ ∃ o, K.lookup p = some o ∧ o.cls = .type "tuple" ∧ o.dict = none) ∨
      (T = "dict" ∧ ((∃ kvs, H p = some (.dK kvs)) ∨ ∃ kvs, H p = some (.dT kvs))) ∨ (T = "set" ∧ ∃ S n, H p = some (.set S n))
  | _ => False
theorem tyV_is {pins : List (Addr × Obj)} {σ : St} {H : Hp} {s : Shared} {T : String} {x : V} {v : Value} (I : Inv X pins σ H s) (r : RelV x v) (ty : tyV X.K T x H) :
    s.TypeIs v T ∧ ∀ a, v = .ref a → ∃ ob, s.heap.get? a = some ob ∧ ob.dict = none := by
  cases x with
  | str z =>
    obtain ⟨t, rfl⟩ := r
    cases (show T = "str" from ty)
    exact ⟨typeIs_str s z t, fun _ e => nomatch e⟩
  | int i =>
    obtain ⟨t, rfl⟩ := r
    cases (show T = "int" from ty)
    exact ⟨typeIs_int s i t, fun _ e => nomatch e⟩
  | ref p =>
    cases r
    rcases ty with ⟨rfl, xs, hq⟩ | ⟨rfl, o, hk, hc, hd⟩ | ⟨rfl, hk⟩ | ⟨rfl, S, n, hk⟩
    · obtain ⟨its, _, pl, _⟩ := I.list hq
      refine ⟨pl.isList.typeIs, fun a e => ?_⟩
      cases e
      obtain ⟨o, n, e, c, hd, _⟩ := pl
      exact ⟨o, e, hd⟩
    · refine ⟨⟨o, I.kIn p o hk, hc⟩, fun a e => ?_⟩
      cases e
      exact ⟨o, I.kIn _ o hk, hd⟩
    · have z : ∃ o, s.heap.get? p = some o ∧ o.ExactDict := by
        rcases hk with ⟨kvs, hk⟩ | ⟨kvs, hk⟩
        · obtain ⟨_, _, _, _, o, _, _, e, ex, _⟩ := I.hok p _ hk
          exact ⟨o, e, ex⟩
        · obtain ⟨_, _, _, _, o, _, _, e, ex, _⟩ := I.hok p _ hk
          exact ⟨o, e, ex⟩
      obtain ⟨o, e, ex⟩ := z
      refine ⟨⟨o, e, ex.1⟩, fun a e2 => ?_⟩
      cases e2
      exact ⟨o, e, ex.2.1⟩
    · obtain ⟨o, _, _, _, e, ex, _⟩ := I.hok p _ hk
      refine ⟨⟨o, e, ex.1⟩, fun a e2 => ?_⟩
      cases e2
      exact ⟨o, e, ex.2.1⟩
  | _ => exact False.elim ty
def tBM0 (K : PySem.W.Frag) (T : String) (r : V → List V → Hp → VK → Prop) (to : TE) : TE := fun σ H Q => to σ H fun x H1 => tyV K T x H1 ∧ r x [] H1 Q
def tBM (K : PySem.W.Frag) (T : String) (r : V → List V → Hp → VK → Prop) (to : TE) (t : TA) : TE := fun σ H Q => to σ H fun x H1 => tyV K T x H1 ∧ t σ H1 fun xs H2 => r x xs H2 Q
variable {o e : Expr} {es : List Expr} {to : TE} {t : TA} {name : Str} {apos cpos : Pos} {T id : String} {r : V → List V → Hp → VK → Prop}
theorem pe_bm0 (pa : PlainAttrs T) (slot : Slot T name id) (hty : typeOf (.builtin id) = pure (.type "method_descriptor")) (hm : MtR X id r) (ho : PE X o to)
    (hbase : attributeBase o name X.env (eval o X.env) = eval o X.env := by rfl) (hline : (apos.endLine == cpos.line) = true := by rfl) : PE X (.Call (.Attribute o name apos) [] [] cpos) (tBM0 X.K T r to) := by
  intro pins s σ H Q I h
  refine wpAny_Call_method0_late hbase hline (thn (ho pins s σ H _ I h) fun v s1 ⟨x, H1, I1, r1, ty, q1⟩ => ?_)
  obtain ⟨h1, h2⟩ := tyV_is I1 r1 ty
  exact ⟨T, id, pa, slot, hty, h1, h2, Calls.callWith_builtin rfl (PySem.evalArgs_none (hm pins s1 σ H1 x [] v [] Q I1 r1 .nil q1))⟩
theorem pe_bm (pa : PlainAttrs T) (slot : Slot T name id) (hty : typeOf (.builtin id) = pure (.type "method_descriptor")) (hm : MtR X id r) (ho : PE X o to) (ha : PA X (e :: es) t)
    (hbase : attributeBase o name X.env (eval o X.env) = eval o X.env := by rfl)
    (hfew : ((backTo cpos (starEach (e :: es) X.env)).all (fun x => !x.1) && (backToKw cpos (keywordEach [] X.env)).all (fun x => x.1.isSome)
      && decide ((e :: es).length + ([] : List Keyword).length + (if ([] : List Keyword).isEmpty then 0 else 1) < 30)) = true := by rfl)
    (hline : (apos.endLine == cpos.line) = true := by rfl) (hs : starEach (e :: es) X.env = (false, eval e X.env) :: starEach es X.env := by rfl) (hplain : (backTo cpos (starEach es X.env)).any (·.1) = false := by rfl) :
    PE X (.Call (.Attribute o name apos) (e :: es) [] cpos) (tBM X.K T r to t) := by
  intro pins s σ H Q I h
  refine wpAny_Call_method_late hbase hfew hline rfl (thn (ho pins s σ H _ I h) fun v s1 ⟨x, H1, I1, r1, ty, q1⟩ => ?_)
  obtain ⟨h1, h2⟩ := tyV_is I1 r1 ty
  refine ⟨T, id, pa, slot, hty, h1, h2, ?_⟩
  have hA := ha cpos pins s1 σ H1 _ I1 q1
  rw [hs] at hA ⊢
  refine Calls.callWith_builtin (by show (false || (backTo cpos (starEach es X.env)).any (·.1)) = false; rw [hplain] <;> rfl) (Calls.evalArgs_plain ?_)
  exact thn hA fun us s2 ⟨vs, H2, I2, r2, q2⟩ => hm pins s2 σ H2 x vs v us Q I2 r1 r2 q2
/- xs.append(e), list.index on a module's tuple .. are MtR facts of 06m -/
end
end L2

namespace L2
open PySem PySem.Spec PyProof.Rows

def MtM (X : Cx) (id : String) (r : V → List V → Hp → VK → Prop) : Prop :=
  ∀ (pins : List (Addr × Obj)) (s : Shared) (σ : St) (H : Hp) (x : V) (xs : List V) (v : Value) (us : List Value) (Q : VK), Inv X pins σ H s → RelV x v → Vals xs us → r x xs H Q →
    wpAny (model X.prog X.w) X.A (call (.builtin id) (v :: us)) (EP X pins σ Q) X.xe s

/-! ### lists of values -/
theorem Vals.one : ∀ {x : V} {us : List Value}, Vals [x] us → ∃ u, us = [u] ∧ RelV x u
  | _, _, .cons r .nil => ⟨_, rfl, r⟩
theorem Vals.two : ∀ {x y : V} {us : List Value}, Vals [x, y] us → ∃ u v, us = [u, v] ∧ RelV x u ∧ RelV y v
  | _, _, _, .cons r (.cons q .nil) => ⟨_, _, rfl, r, q⟩
theorem Vals.zero : ∀ {us : List Value}, Vals [] us → us = []
  | _, .nil => rfl
theorem Vals.dropLast {xs : List V} {us : List Value} (h : Vals xs us) : Vals xs.dropLast us.dropLast := by
  induction h with
  | nil => exact .nil
  | cons r t ih =>
    cases t with
    | nil => exact .nil
    | cons q t' => exact .cons r ih
theorem Vals.eraseIdx : ∀ {xs : List V} {us : List Value} (i : Nat), Vals xs us → Vals (xs.eraseIdx i) (us.eraseIdx i)
  | _, _, _, .nil => .nil
  | _, _, 0, .cons _ t => t
  | _, _, i + 1, .cons r t => .cons r (Vals.eraseIdx i t)
theorem Vals.reverse {xs : List V} {us : List Value} (h : Vals xs us) : Vals xs.reverse us.reverse := by
  induction h with
  | nil => exact .nil
  | cons r t ih => rw [List.reverse_cons, List.reverse_cons]; exact Vals.append ih (.cons r .nil)
theorem Vals.rep {xs : List V} {us : List Value} (h : Vals xs us) : ∀ k : Nat, Vals (List.replicate k xs).flatten (List.replicate k us).flatten
  | 0 => .nil
  | k + 1 => by
    rw [List.replicate_succ, List.replicate_succ, List.flatten_cons, List.flatten_cons]
    exact Vals.append h (Vals.rep h k)
theorem erase_last {α : Type} (l : List α) : l.eraseIdx (l.length - 1) = l.dropLast := by
  induction l with
  | nil => rfl
  | cons a r ih =>
    cases r with
    | nil => rfl
    | cons b r =>
      have e : (a :: b :: r).length - 1 = ((b :: r).length - 1) + 1 := by
        have h1 : (a :: b :: r).length = r.length + 2 := rfl
        have h2 : (b :: r).length = r.length + 1 := rfl
        omega
      rw [e, List.eraseIdx_cons_succ, ih]
      all_goals rfl
theorem len_erase {α : Type} : ∀ (l : List α) (i : Nat), (l.eraseIdx i).length ≤ l.length
  | [], _ => Nat.le_refl _
  | _ :: _, 0 => Nat.le_succ _
  | _ :: r, i + 1 => Nat.succ_le_succ (len_erase r i)
theorem foldl_rep (its : List Value) : ∀ (k : Nat) (acc : List Value),
    List.foldl (fun x1 x2 => x1 ++ x2) acc.toArray (List.replicate k its.toArray) = (acc ++ (List.replicate k its).flatten).toArray
  | 0, acc => by simp
  | k + 1, acc => by
    have e : acc.toArray ++ its.toArray = (acc ++ its).toArray := by simp
    have e2 : (acc ++ its) ++ (List.replicate k its).flatten = acc ++ (List.replicate (k + 1) its).flatten := by
      rw [List.replicate_succ, List.flatten_cons, List.append_assoc]
    rw [← e2, ← foldl_rep its k (acc ++ its), ← e, List.replicate_succ, List.foldl_cons]

section
variable {X : Cx} {pins : List (Addr × Obj)} {σ : St} {H : Hp} {s : Shared} {l b : Addr} {xs ys zs : List V}

/-! ### the two steps: a tracked list is rewritten, a new list is laid -/
theorem Inv.lset {its its' : List Value} {n : Nat} {f : Array Value → Array Value} {t' : Nat} (I : Inv X pins σ H s) (hH : H l = some (.lst xs))
    (e : s.heap.get? l = some { cls := .type "list", data := .seq its.toArray n }) (hf : f its.toArray = its'.toArray) (hv : Vals ys its') (hz : ys.length ≤ sizeLine) :
    Inv X pins σ (upd H l (.lst ys)) { s with heap := s.heap.update l (Obj.mapSeq f), toks := t' } := by
  have q := PySem.IsL.update e f
  rw [hf] at q
  refine I.write (x := l) (e := l) (by rw [hH]; exact trivial) (.inl rfl) (fun b' u hb hu => (Heap.get?_update_other s.heap (Obj.mapSeq f) (Ne.symm hb)).trans hu) ⟨_, q⟩ ?_
  exact ⟨hz, its', _, hv, q⟩
theorem Inv.lnew {its : List Value} {t' : Nat} (I : Inv X pins σ H s) (hv : Vals ys its) (hz : ys.length ≤ sizeLine) :
    Inv X pins σ (upd H s.heap.objs.size (.lst ys)) { s with heap := s.heap.push { cls := .type "list", data := .seq its.toArray }, toks := t' } :=
  I.laid (fun _ _ q => Heap.get?_push_of_some _ q) (Nat.le_refl _) ⟨hz, its, 0, hv, Heap.get?_push_size _ rfl⟩
theorem Inv.fresh (I : Inv X pins σ H s) : H s.heap.objs.size = none := I.hok.fresh (Nat.le_refl _)
theorem Inv.lstM (I : Inv X pins σ H s) (hH : H l = some (.lst xs)) : xs.length ≤ sizeLine ∧ ∃ (its : List Value) (n : Nat), Vals xs its ∧ xs.length = its.length ∧ s.heap.get? l = some { cls := .type "list", data := .seq its.toArray n } := by
  obtain ⟨z, its, n, r, e⟩ := I.hok l _ hH
  exact ⟨z, its, n, r, r.length, e⟩

theorem notLongL {n : Nat} (h : n ≤ sizeLine) : Builtin.List.listTooLong n = false := by
  unfold Builtin.List.listTooLong
  exact decide_eq_false (by omega)
end

section
variable {X : Cx}

/-! ### methods -/
def rAppend : V → List V → Hp → VK → Prop := fun x vs H Q => ∃ l xs y, x = .ref l ∧ vs = [y] ∧ H l = some (.lst xs) ∧ xs.length < sizeLine ∧ Q .non (upd H l (.lst (xs ++ [y])))
theorem mt_append : MtM X "list.append" rAppend := by
  intro pins s σ H x vs v us Q I rx rv h
  obtain ⟨l, xs, y, rfl, rfl, hH, hz, q⟩ := h
  cases rx
  obtain ⟨u, rfl, ru⟩ := rv.one
  obtain ⟨z, its, n, r, hl, e⟩ := I.lstM hH
  refine call_meets F.slot_list_append ⟨_, e, rfl⟩ F.entry_list_append (F.args_list_append_2 _ _) (PySem.list_append l its.toArray n u (by rw [List.size_toArray]; omega)) ⟨e, ?_⟩
  refine ⟨.non, _, I.lset (its' := its ++ [u]) hH e (by simp) (r.append (.cons ru .nil)) ?_, rfl, q⟩
  rw [List.length_append, List.length_singleton]
  omega

def rExtend : V → List V → Hp → VK → Prop := fun x vs H Q => ∃ l b xs zs, x = .ref l ∧ vs = [.ref b] ∧ H l = some (.lst xs) ∧ H b = some (.lst zs) ∧ xs.length + zs.length ≤ sizeLine ∧ Q .non (upd H l (.lst (xs ++ zs)))
theorem mt_extend : MtM X "list.extend" rExtend := by
  intro pins s σ H x vs v us Q I rx rv h
  obtain ⟨l, b, xs, zs, rfl, rfl, hH, hB, hz, q⟩ := h
  cases rx
  obtain ⟨u, rfl, ru⟩ := rv.one
  cases ru
  obtain ⟨z, its, n, r, hl, e⟩ := I.lstM hH
  obtain ⟨z2, its2, n2, r2, hl2, e2⟩ := I.lstM hB
  have hsz : its.toArray.size + its2.toArray.size ≤ sizeLine := by rw [List.size_toArray, List.size_toArray]; omega
  have hlong : ¬ (!its.toArray.isEmpty && Builtin.List.listTooLong (its.toArray.size + its2.toArray.size)) = true := by
    rw [notLongL hsz, Bool.and_false]
    exact Bool.false_ne_true
  refine call_meets F.slot_list_extend ⟨_, e, rfl⟩ F.entry_list_extend (F.args_list_extend_2 _ _)
    (AutoSeq1.list_extend_list_list_0 l its.toArray n b its2.toArray n2 hlong (by rw [List.size_toArray]; omega) (by omega)) ⟨e, e2, ?_⟩
  refine ⟨.non, _, I.lset (its' := its ++ its2) hH e (by simp) (r.append r2) ?_, rfl, q⟩
  rw [List.length_append]
  omega

def rPop : V → List V → Hp → VK → Prop := fun x vs H Q => ∃ l xs y, x = .ref l ∧ vs = [] ∧ H l = some (.lst xs) ∧ xs[xs.length - 1]? = some y ∧ Q y (upd H l (.lst xs.dropLast))
theorem mt_pop : MtM X "list.pop" rPop := by
  intro pins s σ H x vs v us Q I rx rv h
  obtain ⟨l, xs, y, rfl, rfl, hH, hy, q⟩ := h
  cases rx
  have hus := rv.zero
  subst hus
  obtain ⟨z, its, n, r, hl, e⟩ := I.lstM hH
  obtain ⟨u, hu, ru⟩ := r.get hy
  have hy' : its.toArray[its.toArray.size - 1]? = some u := by
    show its.toArray[its.length - 1]? = some u
    rw [← Array.getElem?_toList, ← hl]
    exact hu
  refine call_meets F.slot_list_pop ⟨_, e, rfl⟩ F.entry_list_pop (F.args_list_pop_1 _) (MeetsSeq.list_pop_last l its.toArray n u hy' (by rw [List.size_toArray]; omega)) ⟨e, ?_⟩
  refine ⟨y, _, I.lset (its' := its.dropLast) hH e ?_ r.dropLast ?_, ru, q⟩
  · show its.toArray.eraseIdxIfInBounds (its.toArray.size - 1) = its.dropLast.toArray
    rw [List.size_toArray, List.eraseIdxIfInBounds_toArray, erase_last]
  · rw [List.length_dropLast]
    omega

def rPopAt : V → List V → Hp → VK → Prop := fun x vs H Q => ∃ l xs i k y, x = .ref l ∧ vs = [.int i] ∧ H l = some (.lst xs) ∧ -(2 ^ 63) ≤ i ∧ i < 2 ^ 63 ∧ seqIndex? i xs.length = some k ∧ xs[k]? = some y ∧ Q y (upd H l (.lst (xs.eraseIdx k)))
theorem mt_popAt : MtM X "list.pop" rPopAt := by
  intro pins s σ H x vs v us Q I rx rv h
  obtain ⟨l, xs, i, k, y, rfl, rfl, hH, h1, h2, hk, hy, q⟩ := h
  cases rx
  obtain ⟨u, rfl, ru⟩ := rv.one
  obtain ⟨t, rfl⟩ := ru
  obtain ⟨z, its, n, r, hl, e⟩ := I.lstM hH
  obtain ⟨w, hw, rw'⟩ := r.get hy
  refine call_meets F.slot_list_pop ⟨_, e, rfl⟩ F.entry_list_pop (F.args_list_pop_2 _ _)
    (MeetsSeq.list_pop_at l its.toArray n i t k w (fitsIndex_both h1 h2) (by rw [List.size_toArray, ← hl]; exact hk) (by rw [← Array.getElem?_toList]; exact hw) (by rw [List.size_toArray]; omega)) ⟨e, ?_⟩
  refine ⟨y, _, I.lset (its' := its.eraseIdx k) hH e ?_ (r.eraseIdx k) ?_, rw', q⟩
  · show its.toArray.eraseIdxIfInBounds k = (its.eraseIdx k).toArray
    rw [List.eraseIdxIfInBounds_toArray]
  · have := len_erase xs k
    omega

def rReverse : V → List V → Hp → VK → Prop := fun x vs H Q => ∃ l xs, x = .ref l ∧ vs = [] ∧ H l = some (.lst xs) ∧ Q .non (upd H l (.lst xs.reverse))
theorem mt_reverse : MtM X "list.reverse" rReverse := by
  intro pins s σ H x vs v us Q I rx rv h
  obtain ⟨l, xs, rfl, rfl, hH, q⟩ := h
  cases rx
  have hus := rv.zero
  subst hus
  obtain ⟨z, its, n, r, hl, e⟩ := I.lstM hH
  refine call_meets F.slot_list_reverse ⟨_, e, rfl⟩ F.entry_list_reverse (F.args_list_reverse_1 _) (AutoSeq1.list_reverse_list_0 l its.toArray n (by rw [List.size_toArray]; omega)) ⟨e, ?_⟩
  refine ⟨.non, _, I.lset (its' := its.reverse) hH e (by simp) r.reverse ?_, rfl, q⟩
  rw [List.length_reverse]
  omega

def rClear : V → List V → Hp → VK → Prop := fun x vs H Q => ∃ l xs, x = .ref l ∧ vs = [] ∧ H l = some (.lst xs) ∧ Q .non (upd H l (.lst []))
theorem mt_clear : MtM X "list.clear" rClear := by
  intro pins s σ H x vs v us Q I rx rv h
  obtain ⟨l, xs, rfl, rfl, hH, q⟩ := h
  cases rx
  have hus := rv.zero
  subst hus
  obtain ⟨z, its, n, r, hl, e⟩ := I.lstM hH
  refine call_meets F.slot_list_clear ⟨_, e, rfl⟩ F.entry_list_clear (F.args_list_clear_1 _) (AutoSeq1.list_clear_list_0 l its.toArray n (by rw [List.size_toArray]; omega)) ⟨e, ?_⟩
  exact ⟨.non, _, I.lset (its' := []) (ys := []) hH e rfl .nil (Nat.zero_le _), rfl, q⟩

/-! ### list + list, list += list, list * int -/
def rCat : R2 := fun x y H Q => ∃ l b xs zs, x = .ref l ∧ y = .ref b ∧ H l = some (.lst xs) ∧ H b = some (.lst zs) ∧ xs.length + zs.length ≤ sizeLine ∧ ∀ p, H p = none → Q (.ref p) (upd H p (.lst (xs ++ zs)))
theorem op_cat : OpR X (binaryOp .Add) rCat := by
  intro pins s σ H x y v u Q I rx ry h
  obtain ⟨l, b, xs, zs, rfl, rfl, hH, hB, hz, q⟩ := h
  cases rx
  cases ry
  obtain ⟨z, its, n, r, hl, e⟩ := I.lstM hH
  obtain ⟨z2, its2, n2, r2, hl2, e2⟩ := I.lstM hB
  refine PySem.P.add_list e e2 ?_ (by rw [List.size_toArray, List.size_toArray]; omega)
  have ea : its.toArray ++ its2.toArray = (its ++ its2).toArray := by simp
  rw [ea]
  exact ⟨.ref _, _, I.lnew (t' := s.toks) (r.append r2) (by rw [List.length_append]; omega), rfl, q _ I.fresh⟩
/-- a list times an int (a negative one is nothing) -/
def rRep : R2 := fun x y H Q => ∃ l k xs, x = .ref l ∧ y = .int k ∧ H l = some (.lst xs) ∧ -(2 ^ 63) ≤ k ∧ k < 2 ^ 63 ∧ xs.length * k.toNat ≤ sizeLine ∧
  ∀ p, H p = none → Q (.ref p) (upd H p (.lst (List.replicate k.toNat xs).flatten))
theorem len_rep {α : Type} (xs : List α) (k : Nat) : (List.replicate k xs).flatten.length = k * xs.length := by
  induction k with
  | zero => simp
  | succ k ih => rw [List.replicate_succ, List.flatten_cons, List.length_append, ih, Nat.succ_mul, Nat.add_comm]
theorem op_rep : OpR X (binaryOp .Mult) rRep := by
  intro pins s σ H x y v u Q I rx ry h
  obtain ⟨l, k, xs, rfl, rfl, hH, h1, h2, hz, q⟩ := h
  cases rx
  obtain ⟨t, rfl⟩ := ry
  obtain ⟨z, its, n, r, hl, e⟩ := I.lstM hH
  have hlen : its.toArray.size * k.toNat ≤ sizeLine := by rw [List.size_toArray, ← hl]; exact hz
  have hcap : ¬ its.toArray.size * k.toNat > (2 ^ 63 - 1) / 8 := by
    have : (sizeLine : Nat) ≤ (2 ^ 63 - 1) / 8 := by decide
    omega
  have hfit : ¬ (!Builtin.List.listFitsIndex k) = true := by
    rw [fitsIndex_both h1 h2]
    exact Bool.false_ne_true
  have hlong : ¬ Builtin.List.listTooLong (its.toArray.size * k.toNat) = true := by
    rw [notLongL hlen]
    exact Bool.false_ne_true
  have hnew : List.foldl (fun x1 x2 => x1 ++ x2) #[] (List.replicate (if its.toArray.isEmpty = true then 0 else k.toNat) its.toArray) = (List.replicate k.toNat its).flatten.toArray := by
    have f0 : ∀ m : Nat, List.foldl (fun x1 x2 => x1 ++ x2) #[] (List.replicate m its.toArray) = (List.replicate m its).flatten.toArray := fun m => by
      have := foldl_rep its m []
      rw [List.nil_append] at this
      exact this
    rw [f0]
    cases its with
    | nil => simp
    | cons a r' => rw [if_neg (by simp)]
  refine wpAny_binaryOp_repeat_ref (T := "list") (U := "int") (by decide) ⟨_, e, rfl⟩ (fun s' => typeIs_int s' k t) noFill_list_mul F.fills_int_mul F.slot_int_rmul repeat_list F.slot_int_index.lookup
    (call_meets F.slot_int_rmul (typeIs_int s k t) F.entry_int_rmul (F.args_int_rmul_2 _ _) (int___rmul___int_list k t l its.toArray n)
      ⟨e, rfl, ⟨_, e, rfl⟩, call_meets F.slot_list_mul ⟨_, e, rfl⟩ F.entry_list_mul (F.args_list_mul_2 _ _) (AutoListH.list___mul___list_int_3 l its.toArray n k t hfit hcap hlong) ⟨e, ?_⟩⟩)
  rw [hnew]
  exact ⟨.ref _, _, I.lnew (t' := s.toks) (r.rep k.toNat) (by rw [len_rep, Nat.mul_comm]; exact hz), rfl, q _ I.fresh⟩

/-! ### del xs[i] -/
theorem del_list {pins : List (Addr × Obj)} {s : Shared} {σ : St} {H : Hp} {l : Addr} {xs : List V} {i : Int} {t : Tok} {k : Nat} {Q : Unit → Shared → Prop} (I : Inv X pins σ H s) (hH : H l = some (.lst xs))
    (h1 : -(2 ^ 63) ≤ i) (h2 : i < 2 ^ 63) (hk : seqIndex? i xs.length = some k) (h : ∀ s', Inv X pins σ (upd H l (.lst (xs.eraseIdx k))) s' → Q () s') :
    wpAny (model X.prog X.w) X.A (delItem (.ref l) (.int i t)) Q X.xe s := by
  obtain ⟨z, its, n, r, hl, e⟩ := I.lstM hH
  refine PySem.P.delItem_list (k := k) e (fitsIndex_both h1 h2) (by rw [List.size_toArray, ← hl]; exact hk) (h _ ?_) (by rw [List.size_toArray]; omega)
  refine I.lset (its' := its.eraseIdx k) (t' := s.toks) hH e ?_ (r.eraseIdx k) ?_
  · show its.toArray.eraseIdxIfInBounds k = (its.eraseIdx k).toArray
    rw [List.eraseIdxIfInBounds_toArray]
  · have := len_erase xs k
    omega
end

/-! ### xs[a:b] = ys -/
section
variable {prog : Program} {w : World} {A : Around} {E : Value → Shared → Prop} {s : Shared}
theorem splice_eq (its its2 : List Value) (a c : Nat) : its.toArray.extract 0 a ++ its2.toArray ++ its.toArray.extract c its.toArray.size = (its.take a ++ its2 ++ its.drop c).toArray := by
  apply Array.toList_inj.mp
  first
    | (simp
       exact List.take_of_length_le (by simp))
    | simp [List.take_of_length_le]
    | simp
theorem bounds_run {a c n : Nat} (hac : a ≤ c) (hc : c ≤ n) : sliceBounds (some (a : Int)) (some (c : Int)) none n = ((a : Int), (c : Int), 1) := by
  simp only [sliceBounds, Option.getD_none]
  have h1 : ¬ ((a : Int) < 0) := by omega
  have h2 : ¬ ((c : Int) < 0) := by omega
  simp only [h1, h2, if_false, show (1 : Int) > 0 by decide, if_true]
  congr 1
  · omega
  · congr 1; omega
set_option maxRecDepth 100000 in
/-- list.__setitem__ with a slice of step one and another list -/
theorem setItem_slice {l b sl : Addr} {items new : Array Value} {n n2 : Nat} {vl vu : Value} {a c : Nat} {Q : Unit → Shared → Prop}
    (e : s.heap.get? l = some { cls := .type "list", data := .seq items n }) (e2 : s.heap.get? b = some { cls := .type "list", data := .seq new n2 }) (hne : l ≠ b)
    (hs : s.heap.IsSliceOf sl vl vu .none) (pl : IsPart vl (some (a : Int))) (pu : IsPart vu (some (c : Int))) (hac : a ≤ c) (hc : c ≤ items.size)
    (hsz : items.size + new.size ≤ sizeLine) (h : Q () { s with heap := s.heap.update l (Obj.mapSeq fun xs => xs.extract 0 a ++ new ++ xs.extract c xs.size) }) :
    wpAny (model prog w) A (setItem (.ref l) (.ref sl) (.ref b)) Q E s := by
  have hl : s.heap.IsList l items := PySem.IsL.isList e
  have hb : s.heap.IsList b new := PySem.IsL.isList e2
  obtain ⟨os, hos, hcs, hds⟩ := id hs
  have hTs : s.TypeIs (.ref sl) "slice" := ⟨os, hos, hcs⟩
  have hstep : ¬ ((rawPart none == rawInt 0) = true) := Bool.false_ne_true
  have hsame : Builtin.List.listSameRef (.ref l) (.ref b) = false := by
    unfold Builtin.List.listSameRef
    exact beq_eq_false_iff_ne.mpr hne
  have hmax : (max (a : Int) (c : Int)).toNat = c := by omega
  have hz' : ((fun xs : Array Value => xs.extract 0 a ++ new ++ xs.extract c xs.size) items).size ≤ sizeLine + 1 := by
    simp only [Array.size_append, Array.size_extract]
    omega
  unfold setItem
  try with_reducible refine wpAny_holding ?_
  first | refine wpAny_bind (wpAny_pure ?_) | skip
  refine wpAny_bind (wpAny_sequenceKey hl.typeIs (by decide) ?_)
  refine wpAny_bind (wpAny_callSpecial?_slot (name := Str.ofString "__setitem__") hl.typeIs slot_list_setitem
    (wpAny_call_entry slot_list_setitem hl.typeIs entry_list_setitem ?_ (args_list_setitem _ _ _)))
  show wpAny _ _ (Builtin.List.listSubscript? (.ref sl) >>= _) _ _ s
  refine wpAny_bind ?_
  unfold Builtin.List.listSubscript?
  refine wpAny_bind (wpAny_specialOf hTs slice_no_index ?_)
  simp only [Option.isNone_none, if_true]
  refine wpAny_pure ?_
  show wpAny _ _ (typeOf (.ref sl) >>= _) _ _ s
  refine wpAny_bind (wpAny_typeOf hTs ?_)
  first
    | rw [if_neg (by decide)]
    | refine PySem.W.KFB.if_not (by decide) ?_
  rw [listSliceParts_eq]
  refine wpAny_bind (wpAny_bind (wpAny_field hos hds (x := .none) rfl (wpAny_bind (wpAny_listPart .none ?_))))
  rw [if_neg hstep]
  refine wpAny_bind (wpAny_field hos hds (x := vl) rfl (wpAny_bind (wpAny_listPart pl ?_)))
  refine wpAny_bind (wpAny_field hos hds (x := vu) rfl (wpAny_bind (wpAny_listPart pu (wpAny_pure ?_))))
  first
    | simp only [hsame, Bool.false_eq_true, if_false]
    | refine PySem.W.KFB.if_not hsame ?_
    | (dsimp only
       rw [if_neg (by rw [hsame]; exact Bool.false_ne_true)])
  refine wpAny_bind (m := Builtin.List.listAllItems (.ref b) "must assign iterable to extended slice") ?_
  unfold Builtin.List.listAllItems
  refine wpAny_bind (wpAny_typeOf hb.typeIs ?_)
  first
    | refine PySem.W.KFB.if_so (by decide) ?_
    | rw [if_pos (by decide)]
    | simp only [beq_self_eq_true, Bool.true_or, if_true]
  unfold Builtin.List.listItems
  refine wpAny_bind (wpAny_seqItems e2 rfl (wpAny_pure ?_))
  refine wpAny_bind (wpAny_bind (wpAny_seqItems e rfl (wpAny_pure ?_)))
  refine wpAny_bind (wpAny_of_eq ((sliceIndices_raw (some (a : Int)) (some (c : Int)) none items.size (by simp)).trans (congrArg (pure : Int × Int × Int → Sem (Int × Int × Int)) (bounds_run hac hc))) ?_)
  show wpAny _ _ (if ((1 : Int) == 1) = true then _ else _) _ _ s
  rw [if_pos (by decide)]
  refine wpAny_bind (wpAny_rule ?_)
  first
    | simp only [notLongL hsz, Bool.false_eq_true, if_false]
    | refine PySem.W.KFB.if_not (notLongL hsz) ?_
  first | refine wpAny_bind (wpAny_pure ?_) | skip
  show wpAny _ _ (updateSeq l (fun xs => xs.extract 0 ((a : Int)).toNat ++ new ++ xs.extract (max (a : Int) (c : Int)).toNat xs.size) >>= _) _ _ s
  rw [hmax, Int.toNat_natCast]
  refine wpAny_bind (wpAny_updateSeq (hz := Nat.le_trans (Nat.le_add_right _ _) hsz) (_hz' := hz') e rfl ?_)
  refine wpAny_bind (wpAny_letGo ?_)
  first
    | exact wpAny_bind (wpAny_pure (wpAny_pure ⟨.none, rfl, wpAny_pure h⟩))
    | exact wpAny_pure ⟨.none, rfl, wpAny_pure h⟩
end

section
variable {X : Cx}
/-- xs[a:c] = ys of another list, at the value level: sl is the slice object that was just made -/
theorem set_slice {pins : List (Addr × Obj)} {s : Shared} {σ : St} {H : Hp} {l b sl : Addr} {xs ys : List V} {a c : Int} {vl vu : Value} {Q : Unit → Shared → Prop} (I : Inv X pins σ H s)
    (hH : H l = some (.lst xs)) (hB : H b = some (.lst ys)) (hne : l ≠ b) (hs : s.heap.IsSliceOf sl vl vu .none) (ra : RelV (.int a) vl) (rc : RelV (.int c) vu) (h0 : 0 ≤ a) (hac : a ≤ c) (hc : c ≤ xs.length)
    (hz : xs.length + ys.length ≤ sizeLine) (h : ∀ s', Inv X pins σ (upd H l (.lst (xs.take a.toNat ++ ys ++ xs.drop c.toNat))) s' → Q () s') :
    wpAny (model X.prog X.w) X.A (setItem (.ref l) (.ref sl) (.ref b)) Q X.xe s := by
  obtain ⟨ta, rfl⟩ := ra
  obtain ⟨tc, rfl⟩ := rc
  obtain ⟨z, its, n, r, hl, e⟩ := I.lstM hH
  obtain ⟨z2, its2, n2, r2, hl2, e2⟩ := I.lstM hB
  obtain ⟨a', rfl⟩ := Int.eq_ofNat_of_zero_le h0
  obtain ⟨c', rfl⟩ := Int.eq_ofNat_of_zero_le (Int.le_trans h0 hac)
  simp only [Int.toNat_natCast] at h
  refine setItem_slice (a := a') (c := c') e e2 hne hs (.int _ _) (.int _ _) (by omega) (by rw [List.size_toArray]; omega) (by rw [List.size_toArray, List.size_toArray]; omega) (h _ ?_)
  refine I.lset (its' := its.take a' ++ its2 ++ its.drop c') (t' := s.toks) hH e ?_ (Vals.append (Vals.append (r.take _) r2) (r.drop _)) ?_
  · exact splice_eq its its2 a' c'
  · rw [List.length_append, List.length_append, List.length_take, List.length_drop]
    omega
end
end L2

namespace L2
open PySem PySem.Spec PyProof.Rows

/-! ### lists of pairs as tables -/
section
variable {κ : Type} [DecidableEq κ]
def valV (kvs : List (κ × V)) (k : κ) : Option V := (kvs.find? fun kv => decide (kv.1 = k)).map (·.2)
/-- in its place, or at the end -/
def putK (kvs : List (κ × V)) (k : κ) (v : V) : List (κ × V) :=
  if (kvs.any fun kv => decide (kv.1 = k)) = true then kvs.map (fun kv => if kv.1 = k then (kv.1, v) else kv) else kvs ++ [(k, v)]
def dropK (kvs : List (κ × V)) (k : κ) : List (κ × V) := kvs.filter fun kv => decide (kv.1 ≠ k)

theorem valV_nil {k : κ} : valV ([] : List (κ × V)) k = none := rfl
theorem valV_pos {p : κ × V} {r : List (κ × V)} {k : κ} (e : p.1 = k) : valV (p :: r) k = some p.2 := by simp [valV, List.find?_cons, e]
theorem valV_neg {p : κ × V} {r : List (κ × V)} {k : κ} (e : ¬ p.1 = k) : valV (p :: r) k = valV r k := by simp [valV, List.find?_cons, e]
theorem valV_any (k : κ) : ∀ kvs : List (κ × V), (kvs.any fun kv => decide (kv.1 = k)) = (valV kvs k).isSome
  | [] => rfl
  | p :: r => by
    rw [List.any_cons]
    by_cases e : p.1 = k
    · simp only [valV_pos e, decide_eq_true e, Bool.true_or, Option.isSome_some]
    · rw [valV_neg e, decide_eq_false e, Bool.false_or]; exact valV_any k r
theorem valV_map (k j : κ) (y : V) : ∀ kvs : List (κ × V), valV (kvs.map fun kv => if kv.1 = k then (kv.1, y) else kv) j = (valV kvs j).map fun x => if j = k then y else x
  | [] => rfl
  | p :: r => by
    have ih := valV_map k j y r
    rw [List.map_cons]
    by_cases h : p.1 = k
    · rw [if_pos h]
      by_cases e : p.1 = j
      · rw [valV_pos (p := (p.1, y)) e, valV_pos e, Option.map_some, if_pos (e.symm.trans h)]
      · rw [valV_neg (p := (p.1, y)) e, valV_neg e, ih]
    · rw [if_neg h]
      by_cases e : p.1 = j
      · rw [valV_pos (p := p) e, valV_pos e, Option.map_some, if_neg (fun z => h (e.trans z))]
      · rw [valV_neg (p := p) e, valV_neg e, ih]
theorem valV_snoc (k j : κ) (y : V) : ∀ kvs : List (κ × V), valV kvs k = none → valV (kvs ++ [(k, y)]) j = if j = k then some y else valV kvs j
  | [], _ => by
    by_cases e : k = j
    · rw [if_pos e.symm]; exact valV_pos (p := (k, y)) e
    · rw [if_neg (fun z => e z.symm)]; exact valV_neg (p := (k, y)) e
  | p :: r, hn => by
    rw [List.cons_append]
    have hk : ¬ p.1 = k := fun z => by rw [valV_pos z] at hn; cases hn
    rw [valV_neg hk] at hn
    have ih := valV_snoc k j y r hn
    by_cases e : p.1 = j
    · rw [valV_pos e, valV_pos e, if_neg (fun z => hk (e.trans z))]
    · rw [valV_neg e, valV_neg e, ih]
theorem valV_put (kvs : List (κ × V)) (k j : κ) (y : V) : valV (putK kvs k y) j = if j = k then some y else valV kvs j := by
  unfold putK
  by_cases a : (kvs.any fun kv => decide (kv.1 = k)) = true
  · rw [if_pos a, valV_map]
    rw [valV_any] at a
    by_cases e : j = k
    · obtain ⟨x, hx⟩ := Option.isSome_iff_exists.mp a
      rw [if_pos e, e, hx, Option.map_some, if_pos rfl]
    · rw [if_neg e]
      cases valV kvs j with
      | none => rfl
      | some x => rw [Option.map_some, if_neg e]
  · rw [if_neg a]
    refine valV_snoc k j y kvs ?_
    rw [valV_any] at a
    cases q : valV kvs k with
    | none => rfl
    | some x => rw [q] at a; exact (a rfl).elim
theorem length_putK (kvs : List (κ × V)) (k : κ) (v : V) : (putK kvs k v).length ≤ kvs.length + 1 := by
  unfold putK
  split
  · rw [List.length_map]; omega
  · rw [List.length_append, List.length_cons, List.length_nil]; omega
theorem putK_new {kvs : List (κ × V)} {k : κ} (v : V) (h : valV kvs k = none) : putK kvs k v = kvs ++ [(k, v)] := by
  unfold putK
  rw [valV_any, h]
  exact if_neg (by decide)

theorem RelO.isSome_eq {o : Option V} {u : Option Value} (r : RelO o u) : o.isSome = u.isSome := by
  cases o with
  | none => cases u with
    | none => rfl
    | some _ => exact (show False from r).elim
  | some _ => cases u with
    | none => exact (show False from r).elim
    | some _ => rfl
theorem RelO.getD {o : Option V} {u : Option Value} {d : V} {d' : Value} (r : RelO o u) (rd : RelV d d') : RelV (o.getD d) (u.getD d') := by
  cases o with
  | none => cases u with
    | none => exact rd
    | some _ => exact (show False from r).elim
  | some _ => cases u with
    | none => exact (show False from r).elim
    | some _ => exact r

/-- raw tables of the same keys -/
theorem KV.val {kvs : List (κ × V)} {vs : List (κ × Value)} (r : KV kvs vs) (k : κ) : RelO (valV kvs k) (valueAt vs k) := by
  unfold KV at r
  induction r with
  | nil => exact True.intro
  | @cons p q ps qs h t ih =>
    obtain ⟨h1, h2⟩ := h
    by_cases e : p.1 = k
    · have e' : q.1 = k := h1.symm.trans e
      have b : valueAt (q :: qs) k = some q.2 := by simp [valueAt, List.find?_cons, e']
      rw [valV_pos e, b]; exact h2
    · have e' : ¬ q.1 = k := fun z => e (h1.trans z)
      have b : valueAt (q :: qs) k = valueAt qs k := by simp [valueAt, List.find?_cons, e']
      rw [valV_neg e, b]; exact ih
theorem KV.any {kvs : List (κ × V)} {vs : List (κ × Value)} (r : KV kvs vs) (k : κ) : (kvs.any fun kv => decide (kv.1 = k)) = vs.any fun kv => decide (kv.1 = k) := by
  unfold KV at r
  induction r with
  | nil => rfl
  | cons h t ih => rw [List.any_cons, List.any_cons, ih, h.1]
theorem KV.repl {kvs : List (κ × V)} {vs : List (κ × Value)} (r : KV kvs vs) (k : κ) {y : V} {u : Value} (ry : RelV y u) :
    KV (kvs.map fun kv => if kv.1 = k then (kv.1, y) else kv) (vs.map fun kv => if kv.1 = k then (kv.1, u) else kv) := by
  unfold KV at r ⊢
  induction r with
  | nil => exact .nil
  | @cons p q ps qs h t ih =>
    rw [List.map_cons, List.map_cons]
    refine .cons ?_ ih
    obtain ⟨h1, h2⟩ := h
    by_cases e : p.1 = k
    · rw [if_pos e, if_pos (h1.symm.trans e)]; exact ⟨h1, ry⟩
    · rw [if_neg e, if_neg (fun z => e (h1.trans z))]; exact ⟨h1, h2⟩
theorem KV.put {kvs : List (κ × V)} {vs : List (κ × Value)} (r : KV kvs vs) (k : κ) {y : V} {u : Value} (ry : RelV y u) : KV (putK kvs k y) (stored vs k u) := by
  unfold putK stored
  rw [r.any k]
  by_cases e : (vs.any fun kv => decide (kv.1 = k)) = true
  · rw [if_pos e, if_pos e]; exact r.repl k ry
  · rw [if_neg e, if_neg e]; exact Paired.snoc r ⟨rfl, ry⟩
theorem KV.drop {kvs : List (κ × V)} {vs : List (κ × Value)} (r : KV kvs vs) (k : κ) : KV (dropK kvs k) (without vs k) := by
  unfold KV at r ⊢
  unfold dropK without
  induction r with
  | nil => exact .nil
  | @cons p q ps qs h t ih =>
    obtain ⟨h1, h2⟩ := h
    rw [List.filter_cons, List.filter_cons]
    by_cases e : p.1 = k
    · have a : ¬ decide (p.1 ≠ k) = true := by simp [e]
      have b : ¬ decide (q.1 ≠ k) = true := by simp [h1.symm.trans e]
      rw [if_neg a, if_neg b]; exact ih
    · have e' : ¬ q.1 = k := fun z => e (h1.trans z)
      have a : decide (p.1 ≠ k) = true := by simp [e]
      have b : decide (q.1 ≠ k) = true := by simp [e']
      rw [if_pos a, if_pos b]; exact .cons ⟨h1, h2⟩ ih
theorem KV.keys {kvs : List (κ × V)} {vs : List (κ × Value)} (r : KV kvs vs) : kvs.map (·.1) = vs.map (·.1) := by
  unfold KV at r
  induction r with
  | nil => rfl
  | cons h t ih => rw [List.map_cons, List.map_cons, ih, h.1]
theorem KV.length {kvs : List (κ × V)} {vs : List (κ × Value)} (r : KV kvs vs) : kvs.length = vs.length := Paired.length r
theorem dropK_le (kvs : List (κ × V)) (k : κ) : (dropK kvs k).length ≤ kvs.length := List.length_filter_le _ _
end


/-! ### a tracked dict, its keys ints and texts or tuples of these -/
theorem kV_is {P : Program} {w : World} {k : Key} {u : Value} (r : RelV (kV k) u) : (mixKind P w).is k u = true := by
  cases k with
  | inl i => obtain ⟨t, e⟩ := (show ∃ t, u = Value.int i t from r); subst e; exact mixKind_int P w i t
  | inr x => obtain ⟨t, e⟩ := (show ∃ t, u = Value.str x t from r); subst e; exact mixKind_str P w x t
theorem kV_inj {a b : Key} (e : kV a = kV b) : a = b := by
  cases a with
  | inl i => cases b with
    | inl j => have e' : V.int i = V.int j := e; injection e' with e'; rw [e']
    | inr y => exact nomatch (show V.int i = V.str y from e)
  | inr x => cases b with
    | inl j => exact nomatch (show V.str x = V.int j from e)
    | inr y => have e' : V.str x = V.str y := e; injection e' with e'; rw [e']
theorem kVs_inj : ∀ {a b : List Key}, a.map kV = b.map kV → a = b
  | [], [], _ => rfl
  | [], _ :: _, e => by simp at e
  | _ :: _, [], e => by simp at e
  | x :: xs, y :: ys, e => by
    rw [List.map_cons, List.map_cons] at e
    injection e with e1 e2
    rw [kV_inj e1, kVs_inj e2]
theorem items_are {P : Program} {w : World} : ∀ {ks : List Key} {us : List Value}, Vals (ks.map kV) us → ItemsAre (mixKind P w) ks us
  | [], _, r => by rw [List.map_nil] at r; cases r; exact .nil
  | k :: ks, _, r => by
    rw [List.map_cons] at r
    cases r with
    | cons h t => exact .cons (kV_is h) (items_are t)

/-- raw entries of a dict with tuple keys -/
abbrev KT (H : Hp) : List (List Key × V) → List (List Key × Addr × Value) → Prop := Paired fun p q => p.1 = q.1 ∧ H q.2.1 = some (.tup (p.1.map kV)) ∧ RelV p.2 q.2.2
theorem KT.val {H : Hp} {kvs : List (List Key × V)} {xs : List (List Key × Addr × Value)} (r : KT H kvs xs) (k : List Key) : RelO (valV kvs k) ((atKey xs k).map (·.2)) := by
  induction r with
  | nil => exact True.intro
  | @cons p q ps qs h t ih =>
    obtain ⟨h1, _, h2⟩ := h
    by_cases e : p.1 = k
    · have e' : q.1 = k := h1.symm.trans e
      have b : atKey (q :: qs) k = some q.2 := by simp [atKey, List.find?_cons, e']
      rw [valV_pos e, b]; exact h2
    · have e' : ¬ q.1 = k := fun z => e (h1.trans z)
      have b : atKey (q :: qs) k = atKey qs k := by simp [atKey, List.find?_cons, e']
      rw [valV_neg e, b]; exact ih
theorem KT.repl {H : Hp} {kvs : List (List Key × V)} {xs : List (List Key × Addr × Value)} (r : KT H kvs xs) (k : List Key) {y : V} {u : Value} (ry : RelV y u) :
    KT H (kvs.map fun kv => if kv.1 = k then (kv.1, y) else kv) (xs.map (putAt k u)) := by
  induction r with
  | nil => exact .nil
  | @cons p q ps qs h t ih =>
    rw [List.map_cons, List.map_cons]
    refine .cons ?_ ih
    obtain ⟨h1, h2, h3⟩ := h
    unfold putAt
    by_cases e : p.1 = k
    · rw [if_pos e, if_pos (h1.symm.trans e)]; exact ⟨h1, h2, ry⟩
    · rw [if_neg e, if_neg (fun z => e (h1.trans z))]; exact ⟨h1, h2, h3⟩
theorem KT.put {H : Hp} {kvs : List (List Key × V)} {xs : List (List Key × Addr × Value)} (r : KT H kvs xs) (k : List Key) {b : Addr} {y : V} {u : Value} (hb : H b = some (.tup (k.map kV))) (ry : RelV y u) :
    KT H (putK kvs k y) (storedH xs k b u) := by
  have e : (kvs.any fun kv => decide (kv.1 = k)) = (atKey xs k).isSome := by
    rw [valV_any, (r.val k).isSome_eq, Option.isSome_map]
  unfold putK storedH
  rw [e]
  by_cases q : (atKey xs k).isSome = true
  · rw [if_pos q, if_pos q]; exact r.repl k ry
  · rw [if_neg q, if_neg q]; exact Paired.snoc r ⟨rfl, hb, ry⟩
theorem KT.keeps {H H' : Hp} {kvs : List (List Key × V)} {xs : List (List Key × Addr × Value)} (r : KT H kvs xs) (ht : ∀ b ys, H b = some (.tup ys) → H' b = some (.tup ys)) : KT H' kvs xs :=
  Paired.mapP r fun _ _ z => ⟨z.1, ht _ _ z.2.1, z.2.2⟩

section
variable {P : Program} {w : World} {H : Hp} {h : Heap} {a : Addr}
theorem rd_of {u : HO} (ok : HOk P w H h) (e : Rd H a u) : ObjOk P w H h a u := e.ok ok
theorem dk_rd {kvs : List (Key × V)} (ok : HOk P w H h) (e : Rd H a (.dK kvs)) : kvs.length ≤ sizeLine ∧ (a == sysModules) = false ∧ ∃ vs, KV kvs vs ∧ h.DictOf (mixKind P w) a vs :=
  show ObjOk P w H h a (.dK kvs) from rd_of ok e
theorem dk_of {kvs : List (Key × V)} (ok : HOk P w H h) (e : H a = some (.dK kvs)) : kvs.length ≤ sizeLine ∧ (a == sysModules) = false ∧ ∃ vs, KV kvs vs ∧ h.DictOf (mixKind P w) a vs := dk_rd ok (.inl e)
/-- a tracked tuple of ints and texts is a key -/
theorem key_of {ks : List Key} (ok : HOk P w H h) (e : H a = some (.tup (ks.map kV))) : (tupleKind (mixKind P w)).is h ks a := by
  obtain ⟨_, its, r, o, h1, h2, n, h3⟩ := (show ObjOk P w H h a (.tup (ks.map kV)) from ok a _ e)
  exact ⟨o, its.toArray, n, h1, h2, h3, by simpa using items_are r⟩
theorem dt_rd {kvs : List (List Key × V)} (ok : HOk P w H h) (e : Rd H a (.dT kvs)) : kvs.length ≤ sizeLine ∧ (a == sysModules) = false ∧
    ∃ xs, KT H kvs xs ∧ h.DictOfH (tupleKind (mixKind P w)) a xs := by
  obtain ⟨z, y, xs, r, o, es, ep, h1, h2, h3, h4, h5⟩ := (show ObjOk P w H h a (.dT kvs) from rd_of ok e)
  refine ⟨z, y, xs, r, o, es, ep, h1, h2, h3, h4, fun x hx => ?_, h5⟩
  have all : ∀ {l : List (List Key × V)} {m : List (List Key × Addr × Value)}, KT H l m → ∀ x ∈ m, (tupleKind (mixKind P w)).is h x.1 x.2.1 := by
    intro l m q
    induction q with
    | nil => intro x hx; exact nomatch hx
    | @cons p q ps qs hq t ih =>
      intro x hx
      rcases List.mem_cons.mp hx with e | hx
      · subst e
        exact key_of ok (by rw [← hq.1]; exact hq.2.1)
      · exact ih x hx
  exact all r x hx
theorem dt_of {kvs : List (List Key × V)} (ok : HOk P w H h) (e : H a = some (.dT kvs)) : kvs.length ≤ sizeLine ∧ (a == sysModules) = false ∧
    ∃ xs, KT H kvs xs ∧ h.DictOfH (tupleKind (mixKind P w)) a xs := dt_rd ok (.inl e)
end

/-- what the dict at a holds at the key y -/
def DGet (H : Hp) (a : Addr) (y : V) (r : Option V) : Prop :=
  (∃ kvs k, Rd H a (.dK kvs) ∧ y = kV k ∧ r = valV kvs k) ∨ ∃ kvs k b, Rd H a (.dT kvs) ∧ y = .ref b ∧ H b = some (.tup (k.map kV)) ∧ r = valV kvs k
/-- the heap behind a[y] = v -/
def DPut (H : Hp) (a : Addr) (y v : V) (H' : Hp) : Prop :=
  (∃ kvs k, H a = some (.dK kvs) ∧ y = kV k ∧ kvs.length < sizeLine ∧ H' = upd H a (.dK (putK kvs k v))) ∨
  ∃ kvs k b, H a = some (.dT kvs) ∧ y = .ref b ∧ H b = some (.tup (k.map kV)) ∧ kvs.length < sizeLine ∧ H' = upd H a (.dT (putK kvs k v))
theorem DGet.k {H : Hp} {a : Addr} {kvs : List (Key × V)} {k : Key} (e : H a = some (.dK kvs)) : DGet H a (kV k) (valV kvs k) := .inl ⟨kvs, k, .inl e, rfl, rfl⟩
theorem DGet.t {H : Hp} {a b : Addr} {kvs : List (List Key × V)} {k : List Key} (e : H a = some (.dT kvs)) (eb : H b = some (.tup (k.map kV))) : DGet H a (.ref b) (valV kvs k) := .inr ⟨kvs, k, b, .inl e, rfl, eb, rfl⟩
theorem DPut.k {H : Hp} {a : Addr} {kvs : List (Key × V)} {k : Key} {v : V} (e : H a = some (.dK kvs)) (hl : kvs.length < sizeLine) : DPut H a (kV k) v (upd H a (.dK (putK kvs k v))) := .inl ⟨kvs, k, e, rfl, hl, rfl⟩
theorem DPut.t {H : Hp} {a b : Addr} {kvs : List (List Key × V)} {k : List Key} {v : V} (e : H a = some (.dT kvs)) (eb : H b = some (.tup (k.map kV))) (hl : kvs.length < sizeLine) :
    DPut H a (.ref b) v (upd H a (.dT (putK kvs k v))) := .inr ⟨kvs, k, b, e, rfl, eb, hl, rfl⟩


section
variable {X : Cx} {pins : List (Addr × Obj)} {σ : St} {H : Hp} {s : Shared} {a : Addr} {y v : V} {u r : Value} {o : Option V} {A : Around} {E : Value → Shared → Prop}

theorem Inv.big (I : Inv X pins σ H s) : sysModules < s.heap.objs.size := by
  have h : mainGlobals < s.heap.objs.size := (I.mod.glob.keeps I.bk).lt
  exact Nat.lt_trans (by decide) h

/-- d[y], there -/
theorem d_getItem {Q : Value → Shared → Prop} (hu : A.units + 1 < cLine) (I : Inv X pins σ H s) (g : DGet H a y (some v)) (ry : RelV y u) (h : ∀ w' s', Inv X pins σ H s' → RelV v w' → Q w' s') :
    wpAny (model X.prog X.w) A (getItem (.ref a) u) Q E s := by
  rcases g with ⟨kvs, k, e, ey, l⟩ | ⟨kvs, k, b, e, ey, eb, l⟩
  · subst ey
    obtain ⟨z, hd, vs, rel, dd⟩ := dk_rd I.hok e
    obtain ⟨w', hw, rw'⟩ := RelO.some_of (v := v) (o := valueAt vs k) (by rw [l]; exact rel.val k)
    exact wpAny_getItem_of (kV_is ry) dd.mapOf hw (h w' _ (I.tok _) rw')
  · subst ey
    cases (show u = Value.ref b from ry)
    obtain ⟨z, hd, xs, rel, dd⟩ := dt_rd I.hok e
    obtain ⟨w', hw, rw'⟩ := RelO.some_of (v := v) (o := (atKey xs k).map (·.2)) (by rw [l]; exact rel.val k)
    obtain ⟨p, hp, hp2⟩ := Option.map_eq_some_iff.mp hw
    refine wpAny_getItem_heap (tupleKind_room_in1 hu) (key_of I.hok eb) dd hp ?_
    rw [hp2]
    exact h w' _ (I.tok _) rw'
/-- y in d -/
theorem d_in {Q : Value → Shared → Prop} (hu : A.units + 1 < cLine) (I : Inv X pins σ H s) (g : DGet H a y o) (ry : RelV y u) (h : ∀ s', Inv X pins σ H s' → Q (.bool o.isSome) s') :
    wpAny (model X.prog X.w) A (compareOp .In u (.ref a)) Q E s := by
  rcases g with ⟨kvs, k, e, ey, l⟩ | ⟨kvs, k, b, e, ey, eb, l⟩
  · subst ey
    obtain ⟨z, hd, vs, rel, dd⟩ := dk_rd I.hok e
    refine wpAny_in_of (kV_is ry) hd dd.mapOf ?_
    rw [← (rel.val k).isSome_eq, ← l]
    exact h _ (I.tok _)
  · subst ey
    cases (show u = Value.ref b from ry)
    obtain ⟨z, hd, xs, rel, dd⟩ := dt_rd I.hok e
    refine wpAny_in_heap (tupleKind_room_in1 hu) (key_of I.hok eb) hd dd ?_
    have q := (rel.val k).isSome_eq
    rw [Option.isSome_map] at q
    rw [← q, ← l]
    exact h _ (I.tok _)
theorem d_notIn {Q : Value → Shared → Prop} (hu : A.units + 1 < cLine) (I : Inv X pins σ H s) (g : DGet H a y o) (ry : RelV y u) (h : ∀ s', Inv X pins σ H s' → Q (.bool (!o.isSome)) s') :
    wpAny (model X.prog X.w) A (compareOp .NotIn u (.ref a)) Q E s := by
  rcases g with ⟨kvs, k, e, ey, l⟩ | ⟨kvs, k, b, e, ey, eb, l⟩
  · subst ey
    obtain ⟨z, hd, vs, rel, dd⟩ := dk_rd I.hok e
    refine wpAny_notIn_of (kV_is ry) hd dd.mapOf ?_
    rw [← (rel.val k).isSome_eq, ← l]
    exact h _ (I.tok _)
  · subst ey
    cases (show u = Value.ref b from ry)
    obtain ⟨z, hd, xs, rel, dd⟩ := dt_rd I.hok e
    refine wpAny_notIn_heap (tupleKind_room_in1 hu) (key_of I.hok eb) hd dd ?_
    have q := (rel.val k).isSome_eq
    rw [Option.isSome_map] at q
    rw [← q, ← l]
    exact h _ (I.tok _)
/-- a dict's object is replaced -/
theorem d_write {h' : Heap} {t' : Nat} {ob : HO} (I : Inv X pins σ H s) (mu : Mut (H a)) (hs : Heap.SameBut a s.heap h') (he : ∃ q, h'.get? a = some q) (new : ObjOk X.prog X.w (upd H a ob) h' a ob) :
    Inv X pins σ (upd H a ob) { s with heap := h', toks := t' } :=
  I.write (x := a) (e := a) mu (.inl rfl) (fun b q hb z => (hs.2 b hb).trans z) he new
theorem dk_new {P : Program} {w : World} {H' : Hp} {h' : Heap} {kvs : List (Key × V)} {vs : List (Key × Value)} (z : kvs.length ≤ sizeLine) (hd : (a == sysModules) = false) (rel : KV kvs vs) (dd : h'.DictOf (mixKind P w) a vs) :
    ObjOk P w H' h' a (.dK kvs) := ⟨z, hd, vs, rel, dd⟩
/-- d[y] = v -/
theorem d_setItem {H' : Hp} {Q : Unit → Shared → Prop} (hu : A.units + 1 < cLine) (I : Inv X pins σ H s) (g : DPut H a y v H') (ry : RelV y u) (rv : RelV v r) (h : ∀ s', Inv X pins σ H' s' → Q () s') :
    wpAny (model X.prog X.w) A (setItem (.ref a) u r) Q E s := by
  rcases g with ⟨kvs, k, e, ey, l, eH⟩ | ⟨kvs, k, b, e, ey, eb, l, eH⟩
  · subst ey eH
    obtain ⟨z, hd, vs, rel, dd⟩ := dk_of I.hok e
    have hz : vs.length ≤ sizeLine := by rw [← rel.length]; exact z
    have hl : (putK kvs k v).length ≤ sizeLine := by have := length_putK kvs k v; omega
    refine wpAny_setItem_pairs (hsz := hz) (kV_is ry) dd fun h' dd' hs => h _ ?_
    have he : ∃ q, h'.get? a = some q := let ⟨q, _, _, hq, _⟩ := dd'; ⟨q, hq⟩
    exact d_write I (by rw [e]; exact True.intro) hs he (dk_new hl hd (rel.put k rv) dd')
  · subst ey eH
    cases (show u = Value.ref b from ry)
    obtain ⟨z, hd, xs, rel, dd⟩ := dt_of I.hok e
    have hz : xs.length ≤ sizeLine := by rw [← Paired.length rel]; exact z
    have hl : (putK kvs k v).length ≤ sizeLine := by have := length_putK kvs k v; omega
    refine wpAny_setItem_heap (hsz := hz) (tupleKind_room_in1 hu) (key_of I.hok eb) dd fun h' dd' hs => h _ ?_
    obtain ⟨q, es, ep, hq, h2, h3, h4, _, h5⟩ := dd'
    refine d_write I (by rw [e]; exact True.intro) hs ⟨q, hq⟩ ⟨hl, hd, _, (rel.put k eb rv).keeps fun c ys ec => ?_, q, es, ep, hq, h2, h3, h4, h5⟩
    rw [upd_ne (ne_of ec e (fun z => nomatch z))]
    exact ec
end

section
variable {X : Cx} {pins : List (Addr × Obj)} {σ : St} {H : Hp} {s : Shared} {a : Addr} {kvs : List (Key × V)} {k : Key} {u : Value} {A : Around} {E : Value → Shared → Prop}
/-- del d[k] -/
theorem d_delItem {Q : Unit → Shared → Prop} (I : Inv X pins σ H s) (e : H a = some (.dK kvs)) (ry : RelV (kV k) u) (l : (valV kvs k).isSome = true) (h : ∀ s', Inv X pins σ (upd H a (.dK (dropK kvs k))) s' → Q () s') :
    wpAny (model X.prog X.w) A (delItem (.ref a) u) Q E s := by
  obtain ⟨z, hd, vs, rel, dd⟩ := dk_of I.hok e
  refine wpAny_delItem_slot dd.typeIs (by decide) PySem.F.slot_dict_delitem
    (call_meetsIn PySem.F.slot_dict_delitem dd.typeIs PySem.F.entry_dict_delitem (PySem.F.args_dict_delitem_2 _ _) (meets_dict_delitem_pairs (mixKind X.prog X.w) a (kV_is ry)) ⟨vs, dd, by rw [← rel.length]; exact z, by rw [← (rel.val k).isSome_eq]; exact l, fun h' dd' hs => h _ ?_⟩)
  have he : ∃ q, h'.get? a = some q := let ⟨q, _, _, hq, _⟩ := dd'; ⟨q, hq⟩
  exact d_write I (by rw [e]; exact True.intro) hs he (dk_new (Nat.le_trans (dropK_le kvs k) z) hd (rel.drop k) dd')
/-- d.pop(k[, x]), there -/
theorem d_pop {v : V} {more : List Value} {Q : Value → Shared → Prop} (I : Inv X pins σ H s) (e : H a = some (.dK kvs)) (ry : RelV (kV k) u) (l : valV kvs k = some v) (hm : more = [] ∨ ∃ x, more = [x])
    (h : ∀ w' s', Inv X pins σ (upd H a (.dK (dropK kvs k))) s' → RelV v w' → Q w' s') : wpAny (model X.prog X.w) A (call (.builtin "dict.pop") (.ref a :: u :: more)) Q E s := by
  obtain ⟨z, hd, vs, rel, dd⟩ := dk_of I.hok e
  obtain ⟨w', hw, rw'⟩ := RelO.some_of (v := v) (o := valueAt vs k) (by rw [← l]; exact rel.val k)
  have hp : (keyPart u).isSome = true := by
    cases k with
    | inl i => obtain ⟨t, q⟩ := (show ∃ t, u = Value.int i t from ry); subst q; rfl
    | inr x => obtain ⟨t, q⟩ := (show ∃ t, u = Value.str x t from ry); subst q; rfl
  have ha : argsOk "dict.pop" ⟨.ref a :: u :: more, []⟩ := by
    rcases hm with q | ⟨x, q⟩
    · subst q; exact PySem.F.args_dict_pop_2 _ _
    · subst q; exact PySem.F.args_dict_pop_3 _ _ _
  refine call_meetsIn PySem.F.slot_dict_pop dd.typeIs PySem.F.entry_dict_pop ha (meets_dict_pop_there (mixKind X.prog X.w) a (kV_is ry) more hm hp)
    ⟨vs, w', dd, by rw [← rel.length]; exact z, hw, fun h' dd' hs => h w' _ ?_ rw'⟩
  have he : ∃ q, h'.get? a = some q := let ⟨q, _, _, hq, _⟩ := dd'; ⟨q, hq⟩
  exact d_write I (by rw [e]; exact True.intro) hs he (dk_new (Nat.le_trans (dropK_le kvs k) z) hd (rel.drop k) dd')
/-- d.pop(k, x), not there -/
theorem d_popD {r : Value} {Q : Value → Shared → Prop} (I : Inv X pins σ H s) (e : H a = some (.dK kvs)) (ry : RelV (kV k) u) (l : valV kvs k = none) (h : ∀ s', Inv X pins σ H s' → Q r s') :
    wpAny (model X.prog X.w) A (call (.builtin "dict.pop") [.ref a, u, r]) Q E s := by
  obtain ⟨z, hd, vs, rel, dd⟩ := dk_of I.hok e
  have hn : valueAt vs k = none := RelO.none_of (by rw [← l]; exact rel.val k)
  have hp : (keyPart u).isSome = true := by
    cases k with
    | inl i => obtain ⟨t, q⟩ := (show ∃ t, u = Value.int i t from ry); subst q; rfl
    | inr x => obtain ⟨t, q⟩ := (show ∃ t, u = Value.str x t from ry); subst q; rfl
  exact call_meetsIn PySem.F.slot_dict_pop dd.typeIs PySem.F.entry_dict_pop (PySem.F.args_dict_pop_3 _ _ _) (meets_dict_pop_default (mixKind X.prog X.w) a (kV_is ry) hd hp r) ⟨vs, dd, hn, h _ (I.tok _)⟩
/-- d.clear() -/
theorem d_clear {Q : Value → Shared → Prop} (I : Inv X pins σ H s) (e : H a = some (.dK kvs)) (h : ∀ s', Inv X pins σ (upd H a (.dK [])) s' → Q .none s') : wpAny (model X.prog X.w) A (call (.builtin "dict.clear") [.ref a]) Q E s := by
  obtain ⟨z, hd, vs, rel, dd⟩ := dk_of I.hok e
  refine call_meetsIn PySem.F.slot_dict_clear dd.typeIs PySem.F.entry_dict_clear (PySem.F.args_dict_clear_1 _) (meets_dict_clear (mixKind X.prog X.w) a) ⟨vs, dd, by rw [← rel.length]; exact z, fun h' dd' hs => h _ ?_⟩
  have he : ∃ q, h'.get? a = some q := let ⟨q, _, _, hq, _⟩ := dd'; ⟨q, hq⟩
  exact d_write (t' := s.toks) I (by rw [e]; exact True.intro) hs he (dk_new (Nat.zero_le _) hd .nil dd')
/-- len(d) -/
theorem d_len {Q : Value → Shared → Prop} (I : Inv X pins σ H s) (e : Rd H a (.dK kvs)) (h : ∀ t s', Inv X pins σ H s' → Q (.int kvs.length t) s') : wpAny (model X.prog X.w) A (call (.builtin "len") [.ref a]) Q E s := by
  obtain ⟨z, hd, vs, rel, dd⟩ := dk_rd I.hok e
  refine call_len_dict hd dd (by rw [← rel.length]; rw [sizeLine_eq] at z; omega) ?_
  rw [← rel.length]
  exact h _ _ (I.tok _)
/-- if d -/
theorem d_truth {Q : Bool → Shared → Prop} (I : Inv X pins σ H s) (e : Rd H a (.dK kvs)) (h : ∀ s', Inv X pins σ H s' → Q (!kvs.isEmpty) s') : wpAny (model X.prog X.w) A (truthy (.ref a)) Q E s := by
  obtain ⟨z, hd, vs, rel, dd⟩ := dk_rd I.hok e
  refine wpAny_truthy_dict hd dd (by rw [← rel.length]; rw [sizeLine_eq] at z; omega) ?_
  have q : kvs.isEmpty = vs.isEmpty := by cases rel <;> rfl
  rw [← q]
  exact h _ (I.tok _)
end


/-! ### readings and rules -/
/-- the element of a subscription, not a slice -/
def NoSl (i : Expr) : Prop := ∀ ov iv, subscripted i false ov iv = operate [ov, iv] (getItem ov iv)
theorem subD_of {prog : Program} {w : World} {A : Around} {E : Value → Shared → Prop} {s : Shared} {env : Env} {value slice : Expr} {pos : Pos} {T id : String} {Q : Value → Shared → Prop}
    (hl : typeLookup (.type T) "__getitem__" = pure (some (.builtin id))) (hs : NoSl slice)
    (h : wpAny (model prog w) A (eval value env) (fun o s₁ => wpAny (model prog w) A (eval slice env) (fun i s₂ => s₂.TypeIs o T ∧ wpAny (model prog w) A (getItem o i) Q E s₂) E s₁) E s) :
    wpAny (model prog w) A (eval (.Subscript value slice pos) env) Q E s := by
  refine Subscript_ (wpAny_mono h (fun o s₁ h₁ => wpAny_mono h₁ (fun i s₂ h₂ => ?_) fun _ _ x => x) fun _ _ x => x)
  obtain ⟨hT, h₂⟩ := h₂
  unfold subscriptTail
  refine wpAny_bind ?_
  rw [getitemInPython_of_ne hT.not_modules]
  refine wpAny_bind (wpAny_specialOf hT hl ?_)
  have fin : wpAny (model prog w) A (subscripted slice false o i) (fun r s₃ => wpAny (model prog w) A (letTemporaryGo value o r >>= fun _ => pure r) Q E s₃) E s₂ := by
    rw [hs o i]
    exact wpAny_operating (wpAny_mono h₂ (fun r s₃ h₃ => wpAny_bind (wpAny_letTemporaryGo (wpAny_pure h₃))) fun _ _ x => x)
  first
    | exact wpAny_pure (wpAny_bind fin)
    | exact wpAny_bind (wpAny_pure (wpAny_bind fin))
    | exact wpAny_bind fin

theorem dict_typeIs {X : Cx} {pins : List (Addr × Obj)} {σ : St} {H : Hp} {s : Shared} {a : Addr} {y : V} {o : Option V} (I : Inv X pins σ H s) (g : DGet H a y o) : s.TypeIs (.ref a) "dict" := by
  rcases g with ⟨kvs, k, e, _, _⟩ | ⟨kvs, k, b, e, _, _, _⟩
  · obtain ⟨_, _, vs, _, dd⟩ := dk_rd I.hok e
    exact dd.typeIs
  · obtain ⟨_, _, xs, _, dd⟩ := dt_rd I.hok e
    exact dd.typeIs
theorem dict_noDict {X : Cx} {pins : List (Addr × Obj)} {σ : St} {H : Hp} {s : Shared} {a : Addr} {y : V} {o : Option V} (I : Inv X pins σ H s) (g : DGet H a y o) :
    ∀ b, Value.ref a = .ref b → ∃ ob, s.heap.get? b = some ob ∧ ob.dict = none := fun b q => by
  cases q
  rcases g with ⟨kvs, k, e, _, _⟩ | ⟨kvs, k, b, e, _, _, _⟩
  · obtain ⟨_, _, vs, _, ob, _, _, h1, h2, _⟩ := dk_rd I.hok e
    exact ⟨ob, h1, h2.2.1⟩
  · obtain ⟨_, _, xs, _, ob, _, _, h1, h2, _⟩ := dt_rd I.hok e
    exact ⟨ob, h1, h2.2.1⟩

/-- d[y] -/
def tDGet (td ty : TE) : TE := fun σ H Q => td σ H fun x H1 => ty σ H1 fun y H2 => ∃ a v, x = .ref a ∧ DGet H2 a y (some v) ∧ Q v H2
/-- y in d, y not in d -/
def tDIn (ty td : TE) : TE := fun σ H Q => ty σ H fun y H1 => td σ H1 fun x H2 => ∃ a o, x = .ref a ∧ DGet H2 a y o ∧ Q (.bl o.isSome) H2
def tDNotIn (ty td : TE) : TE := fun σ H Q => ty σ H fun y H1 => td σ H1 fun x H2 => ∃ a o, x = .ref a ∧ DGet H2 a y o ∧ Q (.bl (!o.isSome)) H2
/-- d[y] = v -/
def sDPut (td ty tv : TE) : TS := fun D σ H => tv σ H fun v H1 => td σ H1 fun x H2 => ty σ H2 fun y H3 => ∃ a H4, x = .ref a ∧ DPut H3 a y v H4 ∧ D.nx σ H4
/-- d[y] op= v -/
def sDAug (td ty tv : TE) (rd : V → V → Hp → VK → Prop) : TS := fun D σ H => td σ H fun x H1 => ty σ H1 fun y H2 => ∃ a v, x = .ref a ∧ DGet H2 a y (some v) ∧
  tv σ H2 fun y2 H3 => rd v y2 H3 fun z H4 => ∃ H5, DPut H4 a y z H5 ∧ D.nx σ H5
/-- del d[y] -/
def sDDel (td ty : TE) : TS := fun D σ H => td σ H fun x H1 => ty σ H1 fun y H2 => ∃ a kvs k, x = .ref a ∧ H2 a = some (.dK kvs) ∧ y = kV k ∧ (valV kvs k).isSome = true ∧ D.nx σ (upd H2 a (.dK (dropK kvs k)))

section
variable {X : Cx} {o i e value : Expr} {pos pos' tpos : Pos} {td ty tv : TE}
theorem pe_dget (hu : X.A.units + 1 < cLine) (ho : PE X o td) (hi : PE X i ty) (hs : NoSl i) : PE X (.Subscript o i pos) (tDGet td ty) := by
  intro pins s σ H Q I h
  refine subD_of PySem.F.slot_dict_getitem.lookup hs (thn (ho pins s σ H _ I h) fun u s1 ⟨x, H1, I1, rx, q1⟩ => thn (hi pins s1 σ H1 _ I1 q1) fun iv s2 ⟨y, H2, I2, ry, a, v, ex, g, q2⟩ => ?_)
  subst ex
  obtain rfl : u = Value.ref a := rx
  exact ⟨dict_typeIs I2 g, d_getItem hu I2 g ry fun w' s3 I3 rw' => ⟨v, H2, I3, rw', q2⟩⟩
theorem pc_din (hu : X.A.units + 1 < cLine) (hi : PE X i ty) (ho : PE X o td) : PC X .In i o (tDIn ty td) := by
  intro pins s σ H Q I h
  refine thn (hi pins s σ H _ I h) fun iv s1 ⟨y, H1, I1, ry, q1⟩ => thn (ho pins s1 σ H1 _ I1 q1) fun u s2 ⟨x, H2, I2, rx, a, ov, ex, g, q2⟩ => ?_
  subst ex
  obtain rfl : u = Value.ref a := rx
  exact d_in hu I2 g ry fun s3 I3 => ⟨.bl ov.isSome, H2, I3, rfl, q2⟩
theorem pc_dnotin (hu : X.A.units + 1 < cLine) (hi : PE X i ty) (ho : PE X o td) : PC X .NotIn i o (tDNotIn ty td) := by
  intro pins s σ H Q I h
  refine thn (hi pins s σ H _ I h) fun iv s1 ⟨y, H1, I1, ry, q1⟩ => thn (ho pins s1 σ H1 _ I1 q1) fun u s2 ⟨x, H2, I2, rx, a, ov, ex, g, q2⟩ => ?_
  subst ex
  obtain rfl : u = Value.ref a := rx
  exact d_notIn hu I2 g ry fun s3 I3 => ⟨.bl (!ov.isSome), H2, I3, rfl, q2⟩
theorem ps_dput (hu : X.A.units + 1 < cLine) (ho : PE X o td) (hi : PE X i ty) (hv : PE X value tv) (hs : swapsWith value (some (.Subscript o i pos')) pos.line X.env = pure false) :
    PS X (.Assign [.Subscript o i pos'] value pos) (sDPut td ty tv) := by
  intro pins s σ H D I h
  refine wpAny_Assign_Subscript (thn (hv pins s σ H _ I h) fun r s1 ⟨v, H1, I1, rv, q1⟩ => thn (ho pins s1 σ H1 _ I1 q1) fun u s2 ⟨x, H2, I2, rx, q2⟩ => thn (hi pins s2 σ H2 _ I2 q2) fun iv s3 ⟨y, H3, I3, ry, a, H4, ex, g, q3⟩ => ?_) hs
  subst ex
  obtain rfl : u = Value.ref a := rx
  exact d_setItem hu I3 g ry rv fun s4 I4 => ⟨σ, H4, I4, q3⟩
theorem ps_daug {op : Operator} {rd : V → V → Hp → VK → Prop} (hu : X.A.units + 1 < cLine) (ho : PE X o td) (hi : PE X i ty) (hv : PE X value tv) (hop : InOp X op rd)
    (ha : ∀ ov iv new, augStore i ov iv new = (do holding [new, ov, iv] (setItem ov iv new); release [new, ov, iv] []; pure .next)) : PS X (.AugAssign (.Subscript o i tpos) op value pos) (sDAug td ty tv rd) := by
  intro pins s σ H D I h
  refine wpAny_AugAssign_SubscriptAny (thn (ho pins s σ H _ I h) fun u s1 ⟨x, H1, I1, rx, q1⟩ => thn (hi pins s1 σ H1 _ I1 q1) fun iv s2 ⟨y, H2, I2, ry, a, v, ex, g, q2⟩ => ?_) ha
  subst ex
  obtain rfl : u = Value.ref a := rx
  refine d_getItem hu I2 g ry fun w' s3 I3 rw' => thn (hv pins s3 σ H2 _ I3 q2) fun w2 s4 ⟨y2, H3, I4, ry2, q3⟩ => thn (hop pins s4 σ H3 v y2 w' w2 _ I4 rw' ry2 q3) fun w3 s5 ⟨z, H4, I5, rz, H5, g5, q4⟩ => ?_
  exact d_setItem hu I5 g5 ry rz fun s6 I6 => ⟨σ, H5, I6, q4⟩
theorem ps_ddel (ho : PE X o td) (hi : PE X i ty) : PS X (.Delete [.Subscript o i tpos] pos) (sDDel td ty) := by
  intro pins s σ H D I h
  refine wpAny_Delete (wpAny_deleteEach_cons (wpAny_delete_Subscript (thn (ho pins s σ H _ I h) fun u s1 ⟨x, H1, I1, rx, q1⟩ => thn (hi pins s1 σ H1 _ I1 q1) fun iv s2 ⟨y, H2, I2, ry, a, kvs, k, ex, e, ey, l, q2⟩ => ?_)))
  subst ex ey
  obtain rfl : u = Value.ref a := rx
  exact d_delItem I2 e ry l fun s3 I3 => wpAny_deleteEach_nil ⟨σ, _, I3, q2⟩
end


/-! ### displays -/
theorem dk_empty {P : Program} {w : World} {H : Hp} (h : Heap) (hb : sysModules < h.objs.size) : ObjOk P w H (h.push { cls := .type "dict", data := .dict #[] }) h.objs.size (.dK []) :=
  ⟨Nat.zero_le _, beq_eq_false_iff_ne.mpr (Ne.symm (Nat.ne_of_lt hb)), [], .nil, Heap.DictOf.new h⟩
theorem dt_empty {P : Program} {w : World} {H : Hp} (h : Heap) (hb : sysModules < h.objs.size) : ObjOk P w H (h.push { cls := .type "dict", data := .dict #[] }) h.objs.size (.dT []) :=
  ⟨Nat.zero_le _, beq_eq_false_iff_ne.mpr (Ne.symm (Nat.ne_of_lt hb)), [], .nil, _, #[], 0, Heap.get?_push_size _ rfl, ⟨rfl, rfl, rfl⟩, rfl, rfl, List.nodup_nil⟩
/-- {}, to be a dict of the kind that is wanted -/
def tDNewK : TE := fun _ H Q => ∀ p, H p = none → Q (.ref p) (upd H p (.dK []))
def tDNewT : TE := fun _ H Q => ∀ p, H p = none → Q (.ref p) (upd H p (.dT []))
section
variable {X : Cx} {pos : Pos}
theorem pe_dnewK : PE X (.Dict [] [] pos) tDNewK := fun pins s σ H Q I h =>
  wpAny_Dict_empty ⟨.ref s.heap.objs.size, _, I.laid (a := s.heap.objs.size) (o := .dK []) (t' := s.toks) (fun _ _ q => Heap.get?_push_of_some _ q) (Nat.le_refl _) (dk_empty s.heap I.big), rfl, h _ (I.hok.fresh (Nat.le_refl _))⟩
theorem pe_dnewT : PE X (.Dict [] [] pos) tDNewT := fun pins s σ H Q I h =>
  wpAny_Dict_empty ⟨.ref s.heap.objs.size, _, I.laid (a := s.heap.objs.size) (o := .dT []) (t' := s.toks) (fun _ _ q => Heap.get?_push_of_some _ q) (Nat.le_refl _) (dt_empty s.heap I.big), rfl, h _ (I.hok.fresh (Nat.le_refl _))⟩
end

/-- the pairs of a display, from the left -/
def tPairs : List (TE × TE) → St → Hp → (List (V × V) → Hp → Prop) → Prop
  | [], _, H, Q => Q [] H
  | (tk, tv) :: r, σ, H, Q => tk σ H fun x H1 => tv σ H1 fun y H2 => tPairs r σ H2 fun ps H3 => Q ((x, y) :: ps) H3
abbrev VV : List (V × V) → List (Value × Value) → Prop := Paired fun p q => RelV p.1 q.1 ∧ RelV p.2 q.2
def PPs (X : Cx) (pos : Pos) (keys : List (Option Expr)) (values : List Expr) (trs : List (TE × TE)) : Prop :=
  ∀ (pins : List (Addr × Obj)) (s : Shared) (σ : St) (H : Hp) (Q : List (V × V) → Hp → Prop), Inv X pins σ H s → tPairs trs σ H Q →
    wpAny (model X.prog X.w) X.A (evalPairs (pairTrees keys values X.env pos)) (fun vs s' => ∃ ps H', Inv X pins σ H' s' ∧ VV ps vs ∧ Q ps H') X.xe s
theorem pps_nil {X : Cx} {pos : Pos} : PPs X pos [] [] [] := fun pins s σ H Q I h => pairTrees_nil_walk ⟨[], H, I, .nil, h⟩
theorem pps_cons {X : Cx} {pos : Pos} {k v : Expr} {ks : List (Option Expr)} {vs : List Expr} {tk tv : TE} {trs : List (TE × TE)} (hk : PE X k tk) (hv : PE X v tv) (hr : PPs X pos ks vs trs) :
    PPs X pos (some k :: ks) (v :: vs) ((tk, tv) :: trs) := fun pins s σ H Q I h =>
  pairTrees_cons_walk (thn (hk pins s σ H _ I h) fun u s1 ⟨x, H1, I1, rx, q1⟩ => thn (hv pins s1 σ H1 _ I1 q1) fun w2 s2 ⟨y, H2, I2, ry, q2⟩ =>
    thn (hr pins s2 σ H2 _ I2 q2) fun ws s3 ⟨ps, H3, I3, rel, q3⟩ => ⟨(x, y) :: ps, H3, I3, .cons ⟨rx, ry⟩ rel, q3⟩)

def mergeK (kvs more : List (Key × V)) : List (Key × V) := more.foldl (fun acc kv => putK acc kv.1 kv.2) kvs
theorem KV.merge : ∀ {more : List (Key × V)} {rs : List (Key × Value)} {kvs : List (Key × V)} {vs : List (Key × Value)}, KV more rs → KV kvs vs → KV (mergeK kvs more) (merged vs rs) := by
  intro more rs kvs vs r
  unfold KV at r
  induction r generalizing kvs vs with
  | nil => intro q; exact q
  | @cons p q ps qs h t ih =>
    intro r0
    have e : KV (putK kvs p.1 p.2) (stored vs q.1 q.2) := by
      have := r0.put p.1 h.2
      rw [← h.1]; exact this
    exact ih e
theorem length_mergeK : ∀ (more kvs : List (Key × V)), (mergeK kvs more).length ≤ kvs.length + more.length
  | [], kvs => by show kvs.length ≤ kvs.length + 0; omega
  | p :: r, kvs => by
    have h1 := length_mergeK r (putK kvs p.1 p.2)
    have h2 := length_putK kvs p.1 p.2
    show (mergeK (putK kvs p.1 p.2) r).length ≤ _
    rw [List.length_cons]; omega
theorem carries_of {P : Program} {w : World} : ∀ {kvs : List (Key × V)} {ws : List (Value × Value)}, VV (kvs.map fun kv => (kV kv.1, kv.2)) ws → ∃ rs, Carries (mixKind P w) ws rs ∧ KV kvs rs
  | [], _, r => by rw [List.map_nil] at r; cases r; exact ⟨[], True.intro, .nil⟩
  | p :: kvs, _, r => by
    rw [List.map_cons] at r
    cases r with
    | @cons a b as bs h t =>
      obtain ⟨rs, c, q⟩ := carries_of (P := P) (w := w) t
      obtain ⟨b1, b2⟩ := b
      exact ⟨(p.1, b2) :: rs, ⟨kV_is h.1, rfl, c⟩, .cons ⟨rfl, h.2⟩ q⟩
/-- {k: v, ..} with keys ints and texts; the new dict stands empty while the pairs are made -/
def tDisp (trs : List (TE × TE)) : TE := fun σ H Q => ∀ p, H p = none → tPairs trs σ (upd H p (.dK [])) fun ps H2 => H2 p = some (.dK []) ∧ ∃ kvs : List (Key × V), ps = kvs.map (fun kv => (kV kv.1, kv.2)) ∧ kvs.length ≤ 15 ∧ Q (.ref p) (upd H2 p (.dK (mergeK [] kvs)))
theorem pe_disp {X : Cx} {pos : Pos} {keys : List (Option Expr)} {values : List Expr} {trs : List (TE × TE)} (h : PPs X pos keys values trs) (hall : keys.all (·.isSome) = true) (hl : keys.length = values.length) (h0 : keys ≠ [])
    (h15 : keys.length ≤ 15) : PE X (.Dict keys values pos) (tDisp trs) := by
  intro pins s σ H Q I q
  have hn := I.hok.fresh (Nat.le_refl s.heap.objs.size)
  have I1 := I.laid (a := s.heap.objs.size) (o := .dK []) (h' := s.heap.push { cls := .type "dict", data := .dict #[] }) (t' := s.toks) (fun _ _ q => Heap.get?_push_of_some _ q) (Nat.le_refl _) (dk_empty s.heap I.big)
  refine wpAny_Dict_walk (knd := mixKind X.prog X.w) hall hl h0 h15 (thn (h pins _ σ _ _ I1 (q _ hn)) fun ws s2 ⟨ps, H2, I2, rel, e, kvs, ep, lk, q2⟩ => ?_)
  subst ep
  obtain ⟨rs, c, rk⟩ := carries_of (P := X.prog) (w := X.w) rel
  obtain ⟨z, hd, vs0, r0, dd⟩ := dk_of I2.hok e
  cases r0
  refine ⟨rs, c, dd, fun h' dd' hs => ⟨.ref s.heap.objs.size, _, ?_, rfl, q2⟩⟩
  have hz : (mergeK [] kvs).length ≤ sizeLine := by
    have h1 := length_mergeK kvs []
    rw [List.length_nil] at h1
    rw [sizeLine_eq]; omega
  have he : ∃ q, h'.get? s.heap.objs.size = some q := let ⟨q, _, _, hq, _⟩ := dd'; ⟨q, hq⟩
  exact d_write I2 (by rw [e]; exact True.intro) hs he (dk_new hz hd (rk.merge .nil) dd')


/-! ### methods -/
/-- a method call o.m(e) of a built-in, with one argument: what must be seen of the text -/
structure M1 (X : Cx) (o : Expr) (m : Str) (apos : Pos) (e : Expr) (cpos : Pos) : Prop where
  base : attributeBase o m X.env (eval o X.env) = eval o X.env
  few : ((backTo cpos (starEach [e] X.env)).all (fun x => !x.1) && (backToKw cpos (keywordEach [] X.env)).all (fun x => x.1.isSome)
    && decide (([e] : List Expr).length + ([] : List Keyword).length + (if ([] : List Keyword).isEmpty then 0 else 1) < 30)) = true
  line : (apos.endLine == cpos.line) = true
  trees : backTo cpos (starEach [e] X.env) = [(false, eval e X.env)]
structure M2 (X : Cx) (o : Expr) (m : Str) (apos : Pos) (e f : Expr) (cpos : Pos) : Prop where
  base : attributeBase o m X.env (eval o X.env) = eval o X.env
  few : ((backTo cpos (starEach [e, f] X.env)).all (fun x => !x.1) && (backToKw cpos (keywordEach [] X.env)).all (fun x => x.1.isSome)
    && decide (([e, f] : List Expr).length + ([] : List Keyword).length + (if ([] : List Keyword).isEmpty then 0 else 1) < 30)) = true
  line : (apos.endLine == cpos.line) = true
  trees : backTo cpos (starEach [e, f] X.env) = [(false, eval e X.env), (false, eval f X.env)]

/-- a is a dict, whatever its keys -/
def IsD (H : Hp) (a : Addr) : Prop := (∃ kvs, Rd H a (.dK kvs)) ∨ ∃ kvs, Rd H a (.dT kvs)
theorem isD_at {X : Cx} {pins : List (Addr × Obj)} {σ : St} {H : Hp} {s : Shared} {a : Addr} (I : Inv X pins σ H s) (d : IsD H a) :
    s.TypeIs (.ref a) "dict" ∧ (∀ b, Value.ref a = .ref b → ∃ ob, s.heap.get? b = some ob ∧ ob.dict = none) ∧ (a == sysModules) = false := by
  rcases d with ⟨kvs, e⟩ | ⟨kvs, e⟩
  · obtain ⟨_, hd, vs, _, dd⟩ := dk_rd I.hok e
    refine ⟨dd.typeIs, fun b q => ?_, hd⟩
    cases q
    obtain ⟨ob, _, _, h1, h2, _⟩ := dd
    exact ⟨ob, h1, h2.2.1⟩
  · obtain ⟨_, hd, xs, _, dd⟩ := dt_rd I.hok e
    refine ⟨dd.typeIs, fun b q => ?_, hd⟩
    cases q
    obtain ⟨ob, _, _, h1, h2, _⟩ := dd
    exact ⟨ob, h1, h2.2.1⟩

section
variable {X : Cx} {pins : List (Addr × Obj)} {σ : St} {H : Hp} {s : Shared} {a : Addr} {y d : V} {u r : Value} {o : Option V} {A : Around} {E : Value → Shared → Prop}
/-- d.get(y) -/
theorem d_get1 {Q : Value → Shared → Prop} (hu : A.units + 1 < cLine) (I : Inv X pins σ H s) (g : DGet H a y o) (ry : RelV y u) (h : ∀ w' s', Inv X pins σ H s' → RelV (o.getD .non) w' → Q w' s') :
    wpAny (model X.prog X.w) A (call (.builtin "dict.get") [.ref a, u]) Q E s := by
  rcases g with ⟨kvs, k, e, ey, l⟩ | ⟨kvs, k, b, e, ey, eb, l⟩
  · subst ey
    obtain ⟨z, hd, vs, rel, dd⟩ := dk_rd I.hok e
    refine call_meetsIn PySem.F.slot_dict_get dd.typeIs PySem.F.entry_dict_get (PySem.F.args_dict_get_2 _ _) (meets_dict_get (mixKind X.prog X.w) a (kV_is ry) hd) ⟨_, dd.mapOf, h _ _ (I.tok _) ?_⟩
    rw [l]
    exact (rel.val k).getD rfl
  · subst ey
    cases (show u = Value.ref b from ry)
    obtain ⟨z, hd, xs, rel, dd⟩ := dt_rd I.hok e
    refine call_meetsIn PySem.F.slot_dict_get dd.typeIs PySem.F.entry_dict_get (PySem.F.args_dict_get_2 _ _) (meetsH_dict_get (tupleKind (mixKind X.prog X.w)) a b hd) ⟨tupleKind_room_in1 hu, k, xs, key_of I.hok eb, dd, h _ _ (I.tok _) ?_⟩
    rw [l]
    exact (rel.val k).getD rfl
/-- d.get(y, x) -/
theorem d_get2 {Q : Value → Shared → Prop} (hu : A.units + 1 < cLine) (I : Inv X pins σ H s) (g : DGet H a y o) (ry : RelV y u) (rd : RelV d r) (h : ∀ w' s', Inv X pins σ H s' → RelV (o.getD d) w' → Q w' s') :
    wpAny (model X.prog X.w) A (call (.builtin "dict.get") [.ref a, u, r]) Q E s := by
  rcases g with ⟨kvs, k, e, ey, l⟩ | ⟨kvs, k, b, e, ey, eb, l⟩
  · subst ey
    obtain ⟨z, hd, vs, rel, dd⟩ := dk_rd I.hok e
    refine call_meetsIn PySem.F.slot_dict_get dd.typeIs PySem.F.entry_dict_get (PySem.F.args_dict_get_3 _ _ _) (meets_dict_get_default (mixKind X.prog X.w) a (kV_is ry) hd r) ⟨_, dd.mapOf, h _ _ (I.tok _) ?_⟩
    rw [l]
    exact (rel.val k).getD rd
  · subst ey
    cases (show u = Value.ref b from ry)
    obtain ⟨z, hd, xs, rel, dd⟩ := dt_rd I.hok e
    refine call_meetsIn PySem.F.slot_dict_get dd.typeIs PySem.F.entry_dict_get (PySem.F.args_dict_get_3 _ _ _) (meetsH_dict_get_default (tupleKind (mixKind X.prog X.w)) a b hd r) ⟨tupleKind_room_in1 hu, k, xs, key_of I.hok eb, dd, h _ _ (I.tok _) ?_⟩
    rw [l]
    exact (rel.val k).getD rd
end

def tDGet1 (td ty : TE) : TE := fun σ H Q => td σ H fun x H1 => ∃ a, x = .ref a ∧ IsD H1 a ∧ ty σ H1 fun y H2 => ∃ o, DGet H2 a y o ∧ Q (o.getD .non) H2
def tDGet2 (td ty tx : TE) : TE := fun σ H Q => td σ H fun x H1 => ∃ a, x = .ref a ∧ IsD H1 a ∧ ty σ H1 fun y H2 => tx σ H2 fun z H3 => ∃ o, DGet H3 a y o ∧ Q (o.getD z) H3
/-- d.pop(k): there; d.pop(k, x): there or not -/
def tDPop1 (td ty : TE) : TE := fun σ H Q => td σ H fun x H1 => ∃ a, x = .ref a ∧ IsD H1 a ∧ ty σ H1 fun y H2 => ∃ kvs k v, H2 a = some (.dK kvs) ∧ y = kV k ∧ valV kvs k = some v ∧ Q v (upd H2 a (.dK (dropK kvs k)))
def tDPop2 (td ty tx : TE) : TE := fun σ H Q => td σ H fun x H1 => ∃ a, x = .ref a ∧ IsD H1 a ∧ ty σ H1 fun y H2 => tx σ H2 fun z H3 => ∃ kvs k, H3 a = some (.dK kvs) ∧ y = kV k ∧
  (∀ v, valV kvs k = some v → Q v (upd H3 a (.dK (dropK kvs k)))) ∧ (valV kvs k = none → Q z H3)
section
variable {X : Cx} {o e f : Expr} {apos cpos : Pos} {td ty tx : TE}
theorem pe_dget1 (hu : X.A.units + 1 < cLine) (ho : PE X o td) (he : PE X e ty) (m : M1 X o "get" apos e cpos) : PE X (.Call (.Attribute o "get" apos) [e] [] cpos) (tDGet1 td ty) := by
  intro pins s σ H Q I h
  refine wpAny_Call_method m.base m.few m.line PySem.F.plainAttrs_dict PySem.F.slot_dict_get PySem.F.type_dict_get (thn (ho pins s σ H _ I h) fun u s1 ⟨x, H1, I1, rx, a, ex, d, q1⟩ => ?_)
  subst ex
  obtain rfl : u = Value.ref a := rx
  obtain ⟨t1, t2, _⟩ := isD_at I1 d
  refine ⟨t1, t2, ?_⟩
  rw [m.trees]
  refine Calls.callWith_builtin rfl (Calls.evalArgs_plain (Calls.spliced_cons (thn (he pins s1 σ H1 _ I1 q1) fun iv s2 ⟨y, H2, I2, ry, ov, g, q2⟩ => Calls.spliced_nil ?_)))
  exact d_get1 hu I2 g ry fun w' s3 I3 rw' => ⟨_, H2, I3, rw', q2⟩
theorem pe_dget2 (hu : X.A.units + 1 < cLine) (ho : PE X o td) (he : PE X e ty) (hf : PE X f tx) (m : M2 X o "get" apos e f cpos) : PE X (.Call (.Attribute o "get" apos) [e, f] [] cpos) (tDGet2 td ty tx) := by
  intro pins s σ H Q I h
  refine wpAny_Call_method m.base m.few m.line PySem.F.plainAttrs_dict PySem.F.slot_dict_get PySem.F.type_dict_get (thn (ho pins s σ H _ I h) fun u s1 ⟨x, H1, I1, rx, a, ex, d, q1⟩ => ?_)
  subst ex
  obtain rfl : u = Value.ref a := rx
  obtain ⟨t1, t2, _⟩ := isD_at I1 d
  refine ⟨t1, t2, ?_⟩
  rw [m.trees]
  refine Calls.callWith_builtin rfl (Calls.evalArgs_plain (Calls.spliced_cons (thn (he pins s1 σ H1 _ I1 q1) fun iv s2 ⟨y, H2, I2, ry, q2⟩ =>
    Calls.spliced_cons (thn (hf pins s2 σ H2 _ I2 q2) fun fv s3 ⟨z, H3, I3, rz, ov, g, q3⟩ => Calls.spliced_nil ?_))))
  exact d_get2 hu I3 g ry rz fun w' s4 I4 rw' => ⟨_, H3, I4, rw', q3⟩
theorem pe_dpop1 (ho : PE X o td) (he : PE X e ty) (m : M1 X o "pop" apos e cpos) : PE X (.Call (.Attribute o "pop" apos) [e] [] cpos) (tDPop1 td ty) := by
  intro pins s σ H Q I h
  refine wpAny_Call_method m.base m.few m.line PySem.F.plainAttrs_dict PySem.F.slot_dict_pop PySem.F.type_dict_pop (thn (ho pins s σ H _ I h) fun u s1 ⟨x, H1, I1, rx, a, ex, d, q1⟩ => ?_)
  subst ex
  obtain rfl : u = Value.ref a := rx
  obtain ⟨t1, t2, _⟩ := isD_at I1 d
  refine ⟨t1, t2, ?_⟩
  rw [m.trees]
  refine Calls.callWith_builtin rfl (Calls.evalArgs_plain (Calls.spliced_cons (thn (he pins s1 σ H1 _ I1 q1) fun iv s2 ⟨y, H2, I2, ry, kvs, k, v, ea, ey, l, q2⟩ => Calls.spliced_nil ?_)))
  subst ey
  exact d_pop I2 ea ry l (.inl rfl) fun w' s3 I3 rw' => ⟨v, _, I3, rw', q2⟩
theorem pe_dpop2 (ho : PE X o td) (he : PE X e ty) (hf : PE X f tx) (m : M2 X o "pop" apos e f cpos) : PE X (.Call (.Attribute o "pop" apos) [e, f] [] cpos) (tDPop2 td ty tx) := by
  intro pins s σ H Q I h
  refine wpAny_Call_method m.base m.few m.line PySem.F.plainAttrs_dict PySem.F.slot_dict_pop PySem.F.type_dict_pop (thn (ho pins s σ H _ I h) fun u s1 ⟨x, H1, I1, rx, a, ex, d, q1⟩ => ?_)
  subst ex
  obtain rfl : u = Value.ref a := rx
  obtain ⟨t1, t2, _⟩ := isD_at I1 d
  refine ⟨t1, t2, ?_⟩
  rw [m.trees]
  refine Calls.callWith_builtin rfl (Calls.evalArgs_plain (Calls.spliced_cons (thn (he pins s1 σ H1 _ I1 q1) fun iv s2 ⟨y, H2, I2, ry, q2⟩ =>
    Calls.spliced_cons (thn (hf pins s2 σ H2 _ I2 q2) fun fv s3 ⟨z, H3, I3, rz, kvs, k, ea, ey, q3, q4⟩ => Calls.spliced_nil ?_))))
  subst ey
  cases l : valV kvs k with
  | some v => exact d_pop I3 ea ry l (.inr ⟨fv, rfl⟩) fun w' s4 I4 rw' => ⟨v, _, I4, rw', q3 v l⟩
  | none => exact d_popD I3 ea ry l fun s4 I4 => ⟨z, H3, I4, rz, q4 l⟩
end

/-! ### dict(d): a copy -/
section
variable {X : Cx} {pins : List (Addr × Obj)} {σ : St} {H : Hp} {s : Shared} {a : Addr} {kvs : List (Key × V)} {A : Around} {E : Value → Shared → Prop}
theorem d_copyOf {Q : Value → Shared → Prop} (I : Inv X pins σ H s) (e : Rd H a (.dK kvs)) (h : ∀ p s', H p = none → Inv X pins σ (upd H p (.dK kvs)) s' → Q (.ref p) s') : wpAny (model X.prog X.w) A (call (.type "dict") [.ref a]) Q E s := by
  obtain ⟨z, hd, vs, rel, dd⟩ := dk_rd I.hok e
  refine kt_call_dict hd dd (by rw [← rel.length]; exact z) fun h' dd' hs => ?_
  refine h _ _ (I.hok.fresh (Nat.le_refl _)) (I.laid (a := s.heap.objs.size) (o := .dK kvs) (t' := s.toks) (fun b q hq => ?_) (Nat.le_refl _) (dk_new z (beq_eq_false_iff_ne.mpr (Ne.symm (Nat.ne_of_lt I.big))) rel dd'))
  exact (hs.2 b (Nat.ne_of_lt (Heap.lt_size hq))).trans (Heap.get?_push_of_some _ hq)
end


section
variable {X : Cx} {pins : List (Addr × Obj)} {σ : St} {H : Hp} {s : Shared} {a : Addr} {y : V} {u : Value} {A : Around} {E : Value → Shared → Prop}
/-- d[y], not there: a KeyError -/
theorem d_missing {Q : Value → Shared → Prop} (hu : A.units + 1 < cLine) (hh : A.handled = none) (I : Inv X pins σ H s) (g : DGet H a y none) (ry : RelV y u)
    (h : ∀ h' e t', Heap.NewExc s.heap h' e "KeyError" → E (.ref e) { s with heap := h', toks := t' }) : wpAny (model X.prog X.w) A (getItem (.ref a) u) Q E s := by
  rcases g with ⟨kvs, k, e, ey, l⟩ | ⟨kvs, k, b, e, ey, eb, l⟩
  · subst ey
    obtain ⟨z, hd, vs, rel, dd⟩ := dk_rd I.hok e
    have hn : valueAt vs k = none := RelO.none_of (by rw [l]; exact rel.val k)
    exact wpAny_getItem_missing_of (kV_is ry) hd hh dd.mapOf hn fun h' ex ne => h h' ex _ ne
  · subst ey
    cases (show u = Value.ref b from ry)
    obtain ⟨z, hd, xs, rel, dd⟩ := dt_rd I.hok e
    have hn : (atKey xs k).map (·.2) = none := RelO.none_of (by rw [l]; exact rel.val k)
    exact wpAny_getItem_missing_heap (tupleKind_room_in1 hu) (key_of I.hok eb) hd hh dd (Option.map_eq_none_iff.mp hn) fun h' ex ne => h h' ex _ ne
end
end L2

namespace Att
open PySem PySem.W PySem.Calls PyProof.Rows

/-! ### the script -/
theorem ints_of_wellAll {P : Params} {h : Heap} : ∀ (ns : List Int) (vs : List Value), WellAll P h vs (ns.map WData.int) → IntsAre vs ns := by
  intro ns
  induction ns with
  | nil =>
    intro vs w
    rw [List.map_nil] at w
    cases w
    exact .nil
  | cons n ns ih =>
    intro vs w
    rw [List.map_cons] at w
    cases w with
    | cons a b =>
      cases a
      exact .cons _ _ (ih _ b)

theorem script_of {l : OpenLaw} {n : Nat} (hn : l.most = some n) {P : Params} {h : Heap} {args : List WData} {vals : List Value}
    (hpre : l.row.toRowW.claim.pre args = true) (hwl : WellAll P h vals args) :
    ∃ a vs ns, vals = [Value.ref a] ∧ args = [WData.list (ns.map WData.int)] ∧ h.get? a = some { cls := .type "list", data := .seq vs.toArray } ∧ IntsAre vs ns ∧ ns.length ≤ n := by
  have hsh : WShape.hasAll [] args [.list .int] = true := (pre_splitW hpre).1
  have hc : l.pre.holds [] { args := args } = true := (pre_splitW hpre).2
  obtain ⟨d, r, rfl, h1, h2⟩ := hasAllW_cons hsh
  obtain rfl := hasAllW_nil h2
  obtain ⟨xs, rfl, h3⟩ := hasW_list h1
  obtain ⟨ns, rfl⟩ := items_int h3
  have hlen : ns.length ≤ n := by
    unfold OpenLaw.pre at hc
    have h4 : (WTm.not (.lt (.lit (.int (n : Int))) (.len (.arg 0)))).holds [] { args := [.list (ns.map .int)] } = true := by
      have h4 := (holds_andW hc).1
      rw [hn] at h4
      exact h4
    have h5 := condW_of h4 (w_not (w_lt w_lit (w_len_list (w_arg rfl))))
    rw [List.length_map] at h5
    refine Nat.le_of_not_lt fun q => ?_
    have q' : (n : Int) < ((ns.length : Nat) : Int) := by omega
    first
      | (rw [decide_eq_true q'] at h5; exact absurd h5 (by decide))
      | (simp at h5; omega)
  cases hwl with
  | cons w1 w2 =>
    cases w2
    cases w1 with
    | list ho hall => exact ⟨_, _, ns, rfl, rfl, ho, ints_of_wellAll ns _ hall, hlen⟩

theorem post_true (l : OpenLaw) (args : List WData) : l.row.toRowW.claim.post args (.bool true) args = true :=
  postW_of (r := l.row.toRowW) (X := (true == true))
    (show WShape.has [] (.bool true) .bool = true by first | rfl | decide | simp [WShape.has, WShape.arms, WShape.armsAll])
    (show (WTm.eq .res (.lit (.bool true))).value [] { args := args, res := some (.bool true), after := args } = some (.bool (true == true)) from w_eq_bool (w_res rfl) w_lit) rfl

/-! ### the attachment: holds_open's last premise (the goal 'hc' behind k_head) from a wpAny of the law's body -/
theorem attach {l : OpenLaw} {n : Nat} {q : Program} {loose : List Str} {XP : (Str → Option Value) → Heap → Prop} {YP : World → Heap → Prop} {d : DefRec} {x : Str}
    (hn : l.most = some n) (hdf : d.params.defaults = [])
    (hbind : ∀ pm cd doc v : Value, bindArgs (docDef d.name d.params d.body d.scope pm cd doc) ⟨[v], []⟩ = pure [(x, v)])
    (hx : d.scope.names.lookup x = some .local ∨ d.scope.names.lookup x = some .cell)
    (hk : d.scope.kind = .function) (hco : d.scope.isCoroutine = false) (hgen : d.scope.isGenerator = false)
    (body : ∀ (w : World) (s₀ s₁ s : Shared) (mg mb : Str → Option Value) (fa : Addr) (o : Obj) (pm cd doc : Value) (a : Addr) (vs : List Value) (ns : List Int),
      Ground q loose [] XP w s₀ mg mb s₁.heap → YP w s₁.heap →
      s₁.heap.get? fa = some o → o.data = .func (docDef d.name d.params d.body d.scope pm cd doc) → s₁.heap.CodeRec cd d.name → mg d.name = some (.ref fa) →
      s₁.heap.get? a = some { cls := .type "list", data := .seq vs.toArray } → IntsAre vs ns → ns.length ≤ n →
      s.gens = #[] → s.os = s₁.os →
      Fr s₁.heap s₁.heap.objs.size s.heap (bindL (envOfC d.name d.scope s₁.heap.objs.size fa cd).kindOf [(x, .ref a)] fun _ => none) →
      Cl s₁.heap.objs.size (cellsFrom (s₁.heap.objs.size + 1) d.scope.names []) s.heap (bindC (envOfC d.name d.scope s₁.heap.objs.size fa cd).kindOf [(x, .ref a)] fun _ => none) →
      wpAny (model l.prog w) (callerA.deeper (envOfC d.name d.scope s₁.heap.objs.size fa cd)) (execs d.body (envOfC d.name d.scope s₁.heap.objs.size fa cd))
        (fun f s' => f = .ret (.bool true) ∧ OldK s₁.heap s'.heap ∧ s'.os = s₁.os ∧ AllBare s'.gens) (fun _ _ => False) s) :
    WalkO q loose XP YP l.row.toRowW d [] (fun f vs => PySem.call f vs) := by
  intro w s₀ s₁ mg mb G Y fa o pm cd doc dV kV ho hd hcd hD hmg hg args vals as hpre hlay hrd hwl hlo
  obtain rfl : dV = .none := Dflts.none hD hdf
  obtain rfl : kV = .none := Dflts.noKw hD
  obtain ⟨a, vs, ns, rfl, rfl, hobj, hints, hlen⟩ := script_of hn hpre hwl
  refine enter_call ?_
  refine call_cells_ret (o := o) (by rw [depth_caller]; decide) ho (fd_plain hd) G.T.nolimit hcd (hbind pm cd doc (.ref a)) (fun y hy => ?_) (fun h₁ tk F X => ?_) hco hgen hk
  · obtain rfl : y = (x, Value.ref a) := List.mem_singleton.mp hy
    rcases hx with e | e
    · exact .inl e
    · exact .inr ⟨e, cellsFrom_some _ _ _ (.inl e)⟩
  · refine wpAny_mono (body w s₀ s₁ { s₁ with heap := h₁, toks := tk } mg mb fa o pm cd doc a vs ns G Y ho (fd_plain hd) hcd hmg hobj hints hlen hg rfl F X) (fun f s' hq => ?_) (fun _ _ hq => hq)
    obtain ⟨rfl, h2, h3, h4⟩ := hq
    exact ⟨.inl ⟨.bool true, .bool true, [], rfl, fun _ => rfl, .bool true, post_true l _, fun _ => ⟨List.Pairwise.nil, fun _ hm => (nomatch hm)⟩⟩, h2, h3, h4⟩

/-- the same from a codeAny of the CALL (for a layer whose function contracts speak of calls) -/
theorem attach_call {l : OpenLaw} {n : Nat} {q : Program} {loose : List Str} {XP : (Str → Option Value) → Heap → Prop} {YP : World → Heap → Prop} {d : DefRec}
    (hn : l.most = some n) (hdf : d.params.defaults = [])
    (call : ∀ (w : World) (s₀ s₁ : Shared) (mg mb : Str → Option Value) (fa : Addr) (o : Obj) (pm cd doc : Value) (a : Addr) (vs : List Value) (ns : List Int),
      Ground q loose [] XP w s₀ mg mb s₁.heap → YP w s₁.heap →
      s₁.heap.get? fa = some o → o.data = .func (docDef d.name d.params d.body d.scope pm cd doc) → s₁.heap.CodeRec cd d.name → mg d.name = some (.ref fa) →
      s₁.heap.get? a = some { cls := .type "list", data := .seq vs.toArray } → IntsAre vs ns → ns.length ≤ n → s₁.gens = #[] →
      codeAny (model l.prog w) callerA (.call (.ref fa) ⟨[.ref a], []⟩) (fun r s' => r = .ok (.ret (.bool true)) ∧ OldK s₁.heap s'.heap ∧ s'.os = s₁.os ∧ AllBare s'.gens) s₁) :
    WalkO q loose XP YP l.row.toRowW d [] (fun f vs => PySem.call f vs) := by
  intro w s₀ s₁ mg mb G Y fa o pm cd doc dV kV ho hd hcd hD hmg hg args vals as hpre hlay hrd hwl hlo
  obtain rfl : dV = .none := Dflts.none hD hdf
  obtain rfl : kV = .none := Dflts.noKw hD
  obtain ⟨a, vs, ns, rfl, rfl, hobj, hints, hlen⟩ := script_of hn hpre hwl
  refine enter_call (codeAny_mono (call w s₀ s₁ mg mb fa o pm cd doc a vs ns G Y ho (fd_plain hd) hcd hmg hobj hints hlen hg) fun r s' hq => ?_)
  obtain ⟨rfl, h2, h3, h4⟩ := hq
  exact ⟨.inl ⟨.bool true, .bool true, [], rfl, fun _ => rfl, .bool true, post_true l _, fun _ => ⟨List.Pairwise.nil, fun _ hm => (nomatch hm)⟩⟩, h2, h3, h4⟩

/-- the same where the top left finished generators (o_head chose holds_openN): nothing may have changed at all and no generator may be left -/
theorem attachN {l : OpenLaw} {n : Nat} {q : Program} {loose : List Str} {XP : (Str → Option Value) → Heap → Prop} {YP : World → Heap → Prop} {d : DefRec} {x : Str}
    (hn : l.most = some n) (hdf : d.params.defaults = [])
    (hbind : ∀ pm cd doc v : Value, bindArgs (docDef d.name d.params d.body d.scope pm cd doc) ⟨[v], []⟩ = pure [(x, v)])
    (hx : d.scope.names.lookup x = some .local ∨ d.scope.names.lookup x = some .cell)
    (hk : d.scope.kind = .function) (hco : d.scope.isCoroutine = false) (hgen : d.scope.isGenerator = false)
    (body : ∀ (w : World) (s₀ s₁ s : Shared) (mg mb : Str → Option Value) (fa : Addr) (o : Obj) (pm cd doc : Value) (a : Addr) (vs : List Value) (ns : List Int),
      Ground q loose [] XP w s₀ mg mb s₁.heap → YP w s₁.heap →
      s₁.heap.get? fa = some o → o.data = .func (docDef d.name d.params d.body d.scope pm cd doc) → s₁.heap.CodeRec cd d.name → mg d.name = some (.ref fa) →
      s₁.heap.get? a = some { cls := .type "list", data := .seq vs.toArray } → IntsAre vs ns → ns.length ≤ n →
      s.gens = #[] → s.os = s₁.os →
      Fr s₁.heap s₁.heap.objs.size s.heap (bindL (envOfC d.name d.scope s₁.heap.objs.size fa cd).kindOf [(x, .ref a)] fun _ => none) →
      Cl s₁.heap.objs.size (cellsFrom (s₁.heap.objs.size + 1) d.scope.names []) s.heap (bindC (envOfC d.name d.scope s₁.heap.objs.size fa cd).kindOf [(x, .ref a)] fun _ => none) →
      wpAny (model l.prog w) (callerA.deeper (envOfC d.name d.scope s₁.heap.objs.size fa cd)) (execs d.body (envOfC d.name d.scope s₁.heap.objs.size fa cd))
        (fun f s' => f = .ret (.bool true) ∧ (∀ b o, s₁.heap.get? b = some o → s'.heap.get? b = some o) ∧ s'.os = s₁.os ∧ s'.gens = #[]) (fun _ _ => False) s) :
    WalkN q loose XP YP l.row.toRowW d [] (fun f vs => PySem.call f vs) := by
  intro w s₀ s₁ mg mb G Y fa o pm cd doc dV kV ho hd hcd hD hmg hg args vals as hpre hlay hrd hwl hlo
  obtain rfl : dV = .none := Dflts.none hD hdf
  obtain rfl : kV = .none := Dflts.noKw hD
  obtain ⟨a, vs, ns, rfl, rfl, hobj, hints, hlen⟩ := script_of hn hpre hwl
  refine enter_callW ?_
  refine call_cells_ret (o := o) (by rw [depth_caller]; decide) ho (fd_plain hd) G.T.nolimit hcd (hbind pm cd doc (.ref a)) (fun y hy => ?_) (fun h₁ tk F X => ?_) hco hgen hk
  · obtain rfl : y = (x, Value.ref a) := List.mem_singleton.mp hy
    rcases hx with e | e
    · exact .inl e
    · exact .inr ⟨e, cellsFrom_some _ _ _ (.inl e)⟩
  · refine wpAny_mono (body w s₀ s₁ { s₁ with heap := h₁, toks := tk } mg mb fa o pm cd doc a vs ns G Y ho (fd_plain hd) hcd hmg hobj hints hlen hg rfl F X) (fun f s' hq => ?_) (fun _ _ hq => hq)
    obtain ⟨rfl, h2, h3, h4⟩ := hq
    exact ⟨.inl ⟨.bool true, .bool true, [], rfl, fun _ => rfl, .bool true, post_true l _, fun _ => ⟨List.Pairwise.nil, fun _ hm => (nomatch hm)⟩⟩, h2, h3, h4⟩

/-! ### rules over ANY heap (no ledger) from facts about the written part K: the library's own take a ledger (News) for what they write -/
section
variable {prog : Program} {w : World} {A : Around} {E : Value → Shared → Prop} {s : Shared} {K : Frag}

/-- a def of the module, or a method (qual 'C.m'), entered: the frame is the next address; cells behind it -/
theorem call_fn {R : Result → Shared → Prop} {name qual : Str} {params : Arguments} {body : List Stmt} {scope : Scope} {dV kV doc pm cdv ct oc : Value} {an od : Option Addr} {osl : Array (Option Value)} {f : Addr} {args : Args} {binds : List (Str × Value)}
    (X : K.In s.heap) (hlim : s.heap.NoLimit) (ho : K.lookup f = some ⟨oc, od, .func (fnOf name qual params body scope dV kV doc pm an cdv ct), osl⟩) (hcd : codeIn K cdv qual = true) (hroom : A.depth < recursionLimit)
    (hbind : BindsTo s (fnOf name qual params body scope dV kV doc pm an cdv ct) args binds)
    (hkind : (binds.all fun y => scope.names.lookup y.1 == some .local || scope.names.lookup y.1 == some .cell) = true)
    (h : ∀ s₁, InCallC s s.heap.objs.size (bindL (envOfC qual scope s.heap.objs.size f cdv).kindOf binds fun _ => none) (cellsFrom (s.heap.objs.size + 1) scope.names [])
        (bindC (envOfC qual scope s.heap.objs.size f cdv).kindOf binds fun _ => none) s₁ →
      wpAny (model prog w) (A.deeper (envOfC qual scope s.heap.objs.size f cdv)) (execs body (envOfC qual scope s.heap.objs.size f cdv))
        (fun fl s' => R (.ok (.ret (match fl with | .ret v => v | _ => .none))) s')
        (fun e s' => wpAny (model prog w) (A.deeper (envOfC qual scope s.heap.objs.size f cdv)) (leaving (envOfC qual scope s.heap.objs.size f cdv) e) (fun _ s'' => R (.error e) s'') (fun e' s'' => R (.error e') s'') s') s₁)
    (hco : scope.isCoroutine = false) (hgen : scope.isGenerator = false) (hk : scope.kind = .function) : codeAny (model prog w) A (.call (.ref f) args) R s := by
  refine codeAny_call_function hroom (X _ _ ho) rfl hco hgen rfl (codeRec_of X hcd) (hbind _ _ _ _ ?_)
  refine wpAny_newFunctionEnv_cells hk (kindsX hkind _) fun env he s₁ x => ?_
  subst he
  exact ⟨hlim.keeps x.toInCall.keep, codeAny_func (h s₁ x)⟩

/-- C(..): dict at size, instance at size + 1, then __init__ -/
theorem make_obj {R : Result → Shared → Prop} {C fI : Addr} {rest : List Value} {kw : List (Str × Value)}
    (X : K.In s.heap) (hm : makesIn K C = true) (hi : findIn K (.ref C) "__init__" = some (some (.ref fI))) (hf : isFn K (.ref fI) = true)
    (h : codeAny (model prog w) (A.under (.builtin "type.__call__" ⟨.ref C :: rest, kw⟩)) (.call (.ref fI) ⟨.ref (s.heap.objs.size + 1) :: rest, kw⟩) (InitBack (s.heap.objs.size + 1) R)
      { s with heap := (s.heap.push emptyDict).push (instObj C s.heap.objs.size) }) : codeAny (model prog w) A (.call (.ref C) ⟨rest, kw⟩) R s := by
  obtain ⟨hh, g, d, t, os⟩ := s
  exact make_core (makes_of X hm) (looks_findIn X hi) (fun self => bind_fn X self (beq_iff_eq.mp hf)) (.inl rfl) h

/-- x.name where the instance's dict holds the name and the class does not -/
theorem get_field {x C : Addr} {ox : Obj} {es : List DictEntry} {n : Nat} {name : Str} {expr : Bool} {v : Value} {Q : Value → Shared → Prop}
    (X : K.In s.heap) (I : PySem.W.InstAt s.heap x ox C (some (dictOf es n))) (hg : plainGet K C name = true) (hh : hasDictIn K C = true) (ha : findIn K (.ref C) name = some none)
    (hl : getL name es = some (some v)) (hv : handedIn v = true) (h : Q v { s with toks := s.toks + 1 }) : wpAny (model prog w) A (getAttr (.ref x) name expr) Q E s :=
  get_value X I (plainGet_of hg).1 (findObj_own hh ha rfl hl) hv h

/-- x.m(..): the method found in the class -/
theorem get_method {x C f : Addr} {ox : Obj} {es : List DictEntry} {n : Nat} {name : Str} {pl : Sem Bool} {Q : Value × List Value → Shared → Prop}
    (X : K.In s.heap) (I : PySem.W.InstAt s.heap x ox C (some (dictOf es n))) (hg : plainGet K C name = true) (hf : findIn K (.ref C) name = some (some (.ref f))) (ht : isFn K (.ref f) = true)
    (hl : getL name es = some none) (h : Q (.ref f, [.ref x]) s) : wpAny (model prog w) A (getMethod (.ref x) name pl) Q E s :=
  method_fn X I (plainGet_of hg).1 (plainGet_of hg).2 hf (beq_iff_eq.mp ht) (by show (lookIn name (dictOf es n)).map _ = _; rw [lookIn_dict, hl]; rfl) h

/-! the whole heap as the ledger: makes every rule that writes through a ledger a rule over any heap -/
def noObjs (h : Heap) : Heap := { h with objs := #[] }
theorem noObjs_get (h : Heap) (b : Addr) : (noObjs h).get? b = none := by
  cases e : (noObjs h).get? b with
  | none => rfl
  | some o => exact absurd (Heap.lt_size e) (Nat.not_lt_zero _)
def ledger (h : Heap) (L d : Addr) : List (Addr × Obj) := (List.range h.objs.size).filterMap fun a => if a = L ∨ a = d then none else (h.get? a).map fun o => (a, o)
theorem mem_ledger {h : Heap} {L d a : Addr} {o : Obj} : (a, o) ∈ ledger h L d ↔ a ≠ L ∧ a ≠ d ∧ h.get? a = some o := by
  unfold ledger
  rw [List.mem_filterMap]
  constructor
  · rintro ⟨b, _, e⟩
    split at e
    · cases e
    · rename_i hb
      obtain ⟨o', ho, e'⟩ := Option.map_eq_some_iff.mp e
      cases e'
      exact ⟨fun q => hb (.inl q), fun q => hb (.inr q), ho⟩
  · rintro ⟨n1, n2, ho⟩
    refine ⟨a, List.mem_range.mpr (Heap.lt_size ho), ?_⟩
    rw [if_neg (show ¬ (a = L ∨ a = d) from fun q => q.elim n1 n2), ho] <;> rfl
theorem news_ledger {h : Heap} {L d : Addr} {od : Obj} (hne : d ≠ L) (ho : h.get? d = some od) : News (noObjs h) L h ([] ++ (d, od) :: ledger h L d) := by
  rintro ⟨a, o⟩ hp
  rcases List.mem_cons.mp hp with e | hp
  · cases e
    exact ⟨ho, hne, noObjs_get _ _⟩
  · obtain ⟨n1, n2, e⟩ := mem_ledger.mp hp
    exact ⟨e, n1, noObjs_get _ _⟩
theorem fr_all {h : Heap} {L : Addr} {m : Str → Option Value} (n : h.Ns L m) : Fr (noObjs h) L h m :=
  ⟨n, fun b o e => (by rw [noObjs_get] at e; cases e), Nat.zero_le _⟩
/-- Upd of the head entry (for append_K, setItem_K ..) -/
theorem upd_ledger {h : Heap} {L d : Addr} {o o' : Obj} : Upd d o o' ((d, o) :: ledger h L d) ((d, o') :: ledger h L d) :=
  .head fun ⟨_, _⟩ hp => (mem_ledger.mp hp).2.1

/-- x.name = v over any heap: L is any namespace of the heap (the frame's, say): its map stays, its object is not told; all else but the dict stays -/
theorem set_field {x C dx L : Addr} {ox : Obj} {m : Str → Option Value} {es es' : List DictEntry} {n n' : Nat} {name : Str} {v : Value} {Q : Unit → Shared → Prop}
    (X : K.In s.heap) (I : PySem.W.InstAt s.heap x ox C (some (dictOf es n))) (hd : ox.dict = some dx) (hL : s.heap.Ns L m) (hne : dx ≠ L)
    (hs : findIn K (.ref C) "__setattr__" = some (some (.builtin "object.__setattr__"))) (hp : plainOver K C = true) (ht : takerIn K C name = some none) (hh : hasDictIn K C = true) (hl : (getL name es).isSome = true)
    (e : (putL name (PyData.keyHash w.params name) (.str name (s.toks + 1)) v es, putN name es n) = (es', n')) (hz : es'.length ≤ 1000)
    (h : ∀ h' : Heap, h'.Ns L m → h'.get? dx = some (dictOf es' n') → (∀ b o, b ≠ dx → b ≠ L → s.heap.get? b = some o → h'.get? b = some o) → Q () { s with heap := h', toks := s.toks + 2 }) :
    wpAny (model prog w) A (setAttr (.ref x) name v) Q E s := by
  obtain ⟨e1, e2⟩ := Prod.mk.inj e
  have hdx : s.heap.get? dx = some (dictOf es n) := by
    have := I.dict
    rw [hd] at this
    exact this
  refine set_plain X I hs (osa_dict (s := { s with toks := s.toks + 1 }) (h₀ := noObjs s.heap) (L := L) (m := m) (od := dictOf es n) (od' := dictOf es' n') (es := es') (n := n') (pre := []) (post := ledger s.heap L dx)
    (fr_all hL) (news_ledger hne hdx) X I hd hp ht hh hl (fun _ q => nomatch q) (fun ⟨_, _⟩ q => (mem_ledger.mp q).2.1) (by rw [putName_dict, e1, e2]) rfl hz fun h' F' N' => ?_)
  exact h h' F'.ns (N'.get (List.Mem.head _)) fun b o n1 n2 ho => N'.get (List.Mem.tail _ (mem_ledger.mpr ⟨n2, n1, ho⟩))
end
end Att

namespace L2
open PySem PySem.Spec PyProof.Rows

theorem vals_ints : ∀ {vs : List Value} {ns : List Int}, IntsAre vs ns → Vals (ns.map V.int) vs
  | _, _, .nil => .nil
  | _, _, .cons n t h => .cons ⟨t, rfl⟩ (vals_ints h)

/-- nothing is tracked but the script, known to the object (or it is an object of the module) -/
def Only (H : Hp) : Prop := ∀ b, H b = none ∨ ∃ o xs, H b = some (.frz o (.lst xs))

/-- THE HEAD: the law's promise, at the heap behind the top. F, the promise of the law's def, may use that base is part of the heap (so K.In base, base.Ns mainGlobals mg stand in Mod) -/
theorem law_call {P : Program} {w : World} {K : PySem.W.Frag} {mg mb : Str → Option Value} {CX : CXT} {k : Nat} {fa a : Addr} {fd : FuncData} {x : Str} {sp : Sp} {s₁ : Shared} {vs : List Value} {ns : List Int}
    (KX : K.In s₁.heap) (hns : s₁.heap.Ns mainGlobals mg) (hb : s₁.heap.Ns builtinsNs mb) (hbb : ∀ x : Str, x ≠ "__name__" → mb x = bootBuiltins x) (hlim : s₁.heap.NoLimit) (hg : s₁.gens = #[])
    (ha : s₁.heap.get? a = some { cls := .type "list", data := .seq vs.toArray }) (hi : IntsAre vs ns) (hl : ns.length ≤ sizeLine) (hr : Room k callerA)
    (F : ∀ base : Heap, K.In base → base.Ns mainGlobals mg → FnOk P w K mg base CX k fa fd [x] sp) (hbind : ∀ (s : Shared) (u : Value), BindsTo s fd ⟨[u], []⟩ [(x, u)])
    (hsp : ∀ H : Hp, Only H → SqL K H a (ns.map V.int) → sp [.ref a] H (fun v _ => v = .bl true) fun _ _ _ => False)
    (hCX : ∀ H e s', CX [] H s₁ (fun _ _ _ => False) e s' → False) :
    codeAny (model P w) callerA (.call (.ref fa) ⟨[.ref a], []⟩) (fun r s' => r = .ok (.ret (.bool true)) ∧ OldK s₁.heap s'.heap ∧ s'.os = s₁.os ∧ AllBare s'.gens) s₁ := by
  have rv := vals_ints hi
  have lenV := hi.length
  -- from an abstract heap in which nothing but the script may be tracked
  have core : ∀ H : Hp, Only H → SqL K H a (ns.map V.int) → HOk P w H s₁.heap → (∀ b, H b ≠ none → b = a) → (H a ≠ none → K.lookup a = none) →
      codeAny (model P w) callerA (.call (.ref fa) ⟨[.ref a], []⟩) (fun r s' => r = .ok (.ret (.bool true)) ∧ OldK s₁.heap s'.heap ∧ s'.os = s₁.os ∧ AllBare s'.gens) s₁ := by
    intro H hO hS hok hA hK
    have base_of : ∀ {b : Addr} {o : Obj}, s₁.heap.get? b = some o → H b = none → (hidT s₁.heap H).get? b = some o := fun e n => hidT_get e n
    have noA : ∀ {b : Addr} {o : Obj} {es : Array DictEntry} {ep : Nat}, s₁.heap.get? b = some o → o.data = .dict es ep → H b = none := fun {b o es ep} e d => by
      cases q : H b with
      | none => rfl
      | some u =>
        have e' : b = a := hA b (by rw [q]; simp)
        subst e'
        rw [ha] at e; cases e
        have d' : Data.seq vs.toArray _ = Data.dict es ep := d
        cases d'
    have nsK : ∀ {b : Addr} {m : Str → Option Value}, s₁.heap.Ns b m → (hidT s₁.heap H).Ns b m := fun {b m} ⟨o, es, ep, e, d, r⟩ => ⟨o, es, ep, base_of e (noA e d), d, r⟩
    have hKb : K.In (hidT s₁.heap H) := fun b o e => base_of (KX b o e) (by
      cases q : H b with
      | none => rfl
      | some u =>
        have e' : b = a := hA b (by rw [q]; simp)
        subst e'
        rw [hK (by rw [q]; simp)] at e; cases e)
    have hM : Mod K mg (hidT s₁.heap H) := ⟨hKb, nsK hns, ⟨mb, nsK hb, hbb⟩, let ⟨mc, h1, h2⟩ := hlim; ⟨mc, nsK h1, h2⟩⟩
    have e0 : Env0 P w K mg (hidT s₁.heap H) callerA [] s₁ H := ⟨rfl, hM, fun b o e => of_hidT e, Nat.le_of_eq (hidT_size _ _), trivial, fun b hb => absurd (show b ∈ ([] : List Addr) from hb) (by simp), hok, .of_eq hg⟩
    refine codeAny_mono ((F _ hKb (nsK hns)).run callerA [] s₁ H ⟨[.ref a], []⟩ [.ref a] [.ref a] _ _ hr e0 (hbind s₁ (.ref a)) (.cons rfl .nil) (hsp H hO hS)) fun r s' h => ?_
    cases r with
    | error e => exact (hCX H e s' h).elim
    | ok fl =>
      cases fl with
      | next => exact False.elim h
      | brk => exact False.elim h
      | cont => exact False.elim h
      | ret u =>
        obtain ⟨v, H', os, bare, un, hok', r', q⟩ := h
        have q' : v = .bl true := q
        subst q'
        obtain rfl : u = Value.bool true := r'
        refine ⟨rfl, OldK.of_keep fun b o e => ?_, os, bare⟩
        cases q : H b with
        | none => exact un.keep b o e q (by intro z; exact absurd (show b ∈ ([] : List Addr) from z) (by simp)) (by simp)
        | some u =>
          rcases hO b with z | ⟨ob, xs, z⟩
          · rw [q] at z; cases z
          · have z2 := un.frzs b ob _ z
            obtain ⟨e1, _⟩ := hok b _ z
            obtain ⟨e2, _⟩ := hok' b _ z2
            rw [e] at e1; cases e1
            exact e2
  cases hk : K.lookup a with
  | some o =>
    -- the script is one of the module's own objects
    have e := KX a o hk
    rw [ha] at e
    cases e
    refine core (fun _ => none) (fun _ => .inl rfl) (.inr ⟨_, vs.toArray, _, hk, rfl, rfl, rfl, by rw [List.size_toArray, lenV]; exact hl, by simpa using rv⟩) (fun b u z => by have z' : (none : Option HO) = some u := z; cases z') (fun b z => absurd rfl z) fun z => absurd rfl z
  | none =>
    refine core (fun b => if b = a then some (.frz { cls := .type "list", data := .seq vs.toArray } (.lst (ns.map V.int))) else none) (fun b => ?_) (.inl (.inr ⟨{ cls := .type "list", data := .seq vs.toArray }, if_pos rfl⟩)) (fun b u z => ?_) (fun b z => ?_) fun _ => hk
    · by_cases hb : b = a
      · exact .inr ⟨_, _, if_pos hb⟩
      · exact .inl (if_neg hb)
    · by_cases hb : b = a
      · have z' := (if_pos hb).symm.trans z
        cases z'
        subst hb
        exact ⟨ha, by rw [List.length_map]; exact hl, vs, _, rv, ha⟩
      · have z' := (if_neg hb).symm.trans z
        cases z'
    · by_cases hb : b = a
      · exact hb
      · exact absurd (if_neg hb) z
end L2

namespace L2
open PySem PySem.Spec PyProof.Rows

abbrev KOf {K : PySem.W.Frag} {h : Heap} (_ : K.In h) : PySem.W.Frag := K

/-- the goal that k_head leaves (case hc), from the law's promise. F gives the function object fd (K's own) once, then the promise over every base -/
theorem walk_of {l : PySem.W.OpenLaw} {n k : Nat} {q : Program} {loose : List Str} {XP : (Str → Option Value) → Heap → Prop} {YP : World → Heap → Prop} {d : DefRec} {K : Params → PySem.W.Frag} {CX : World → CXT} {sp : World → Sp} {x : Str}
    (hn : l.most = some n) (hn2 : n ≤ sizeLine) (hdf : d.params.defaults = []) (hr : Room k callerA)
    (hY : ∀ (w : World) (h : Heap), YP w h → (K w.params).In h)
    (F : ∀ (w : World) (mg : Str → Option Value) (fa : Addr) (h : Heap), (K w.params).In h → h.Ns mainGlobals mg → mg d.name = some (.ref fa) →
      ∃ fd : FuncData, (∀ (s : Shared) (u : Value), BindsTo s fd ⟨[u], []⟩ [(x, u)]) ∧
        ∀ base : Heap, (K w.params).In base → base.Ns mainGlobals mg → FnOk l.prog w (K w.params) mg base (CX w) k fa fd [x] (sp w))
    (hsp : ∀ (w : World) (H : Hp) (a : Addr) (ns : List Int), ns.length ≤ n → Only H → SqL (K w.params) H a (ns.map V.int) → sp w [.ref a] H (fun v _ => v = .bl true) fun _ _ _ => False)
    (hCX : ∀ (w : World) (H : Hp) (s : Shared) (e : Value) (s' : Shared), CX w [] H s (fun _ _ _ => False) e s' → False) :
    PySem.W.WalkO q loose XP YP l.row.toRowW d [] (fun f vs => PySem.call f vs) := by
  refine Att.attach_call hn hdf fun w s₀ s₁ mg mb fa o pm cd doc a vs ns G Y ho hd hcd hmg hobj hints hlen hg => ?_
  have KX := hY w _ Y
  obtain ⟨fd, hb, hF⟩ := F w mg fa _ KX G.T.g hmg
  exact law_call KX G.T.g G.T.b G.T.builtins G.T.nolimit hg hobj hints (Nat.le_trans hlen hn2) hr hF hb (fun H hO hS => hsp w H a ns hlen hO hS) fun H e s' => hCX w H s₁ e s'
/-- the same where the promise hangs on the written part alone: (sp := My.sp_law), no hole under a binder -/
theorem walk_ofK {l : PySem.W.OpenLaw} {n k : Nat} {q : Program} {loose : List Str} {XP : (Str → Option Value) → Heap → Prop} {YP : World → Heap → Prop} {d : DefRec} {K : Params → PySem.W.Frag} {CX : CXT} {sp : PySem.W.Frag → Sp} {x : Str}
    (hn : l.most = some n) (hn2 : n ≤ sizeLine) (hdf : d.params.defaults = []) (hr : Room k callerA)
    (hY : ∀ (w : World) (h : Heap), YP w h → (K w.params).In h)
    (F : ∀ (w : World) (mg : Str → Option Value) (fa : Addr) (h : Heap), (K w.params).In h → h.Ns mainGlobals mg → mg d.name = some (.ref fa) →
      ∃ fd : FuncData, (∀ (s : Shared) (u : Value), BindsTo s fd ⟨[u], []⟩ [(x, u)]) ∧
        ∀ base : Heap, (K w.params).In base → base.Ns mainGlobals mg → FnOk l.prog w (K w.params) mg base CX k fa fd [x] (sp (K w.params)))
    (hsp : ∀ (K : PySem.W.Frag) (H : Hp) (a : Addr) (ns : List Int), ns.length ≤ n → Only H → SqL K H a (ns.map V.int) → sp K [.ref a] H (fun v _ => v = .bl true) fun _ _ _ => False)
    (hCX : ∀ (H : Hp) (s : Shared) (e : Value) (s' : Shared), CX [] H s (fun _ _ _ => False) e s' → False) :
    PySem.W.WalkO q loose XP YP l.row.toRowW d [] (fun f vs => PySem.call f vs) :=
  walk_of (K := K) (CX := fun _ => CX) (sp := fun w => sp (K w.params)) hn hn2 hdf hr hY F (fun w H a ns h1 h2 h3 => hsp (K w.params) H a ns h1 h2 h3) fun _ H s e s' => hCX H s e s'
end L2

/- THE LAST THEOREM (shape; LID, My.* are yours):
   My.Adr: a structure of the addresses that your layer names (classes, functions); My.Txt K t: a structure (Prop) of the equations over K;
   My.txt_mk : {K} {implicit addresses ..} (e1 : nsIn K mainGlobals "law" = some (some (.ref f))) (e2 : K.lookup f = some ⟨oc, od, .func (fnOf "law" "law" params body scope dV kV doc pm an cdv ct), sl⟩) (e3 : codeIn K cdv "law" = true) .. : ∃ t, My.Txt K t

set_option maxRecDepth 100000 in
set_option maxHeartbeats 0 in
theorem PySem.Challenge.cw_LID_holds : PySem.Challenge.rw_LID.Holds := by
  w_on; o_law; k_head; (case hw => w_witness2)
  k_fill
  refine L2.walk_of (l := PySem.Challenge.rw_LID) (n := 63) (k := 40) (x := "script") (CX := fun w => ..) (sp := fun _ => My.sp_law) rfl (by decide) rfl ⟨rfl, by decide, by decide⟩ (fun w h Y => PySem.W.kIn_of Y) ?F ?S ?C
  case F =>
    intro w mg fa h KX G hmg
    have T : ∃ t, My.Txt (L2.KOf KX) t := by
      dsimp only [L2.KOf]                          -- K must stand as «<heap const> w.params» for k_is
      refine' My.txt_mk ?e1 ?e2 ?e3 ..
      (case e1 => PySem.W.k_is)                    -- in the order: a name -> its address -> its object -> its parts
      (case e2 => PySem.W.k_is)
      ..
    obtain ⟨t, T⟩ := T
    have e0 := hmg.symm.trans (PySem.W.mg_of KX G T.law)
    cases e0                                       -- fa is the law's own address
    exact ⟨_, fun s u => .of_eq rfl, fun base kb nb => My.law_fn T kb nb⟩     -- if «.of_eq rfl» comes too early: refine' ⟨_, ?b, fun base kb nb => My.law_fn T kb nb⟩; exact fun s u => .of_eq rfl
  case S => exact fun w H a ns hl hO hS => ..
  case C => exact ..
(the tactic k_is has no namespace: write k_is) -/

/-! SHORT WORDS over the layer: a def of the text, its body, what a loop and a test want. -/
namespace L2
open PySem PySem.Spec PyProof.Rows

/-! ### the text by places -/
/-- the j-th statement of a class's body -/
def inClass (s : Stmt) (j : Nat) : Stmt := match s with
  | .ClassDef _ _ _ body _ _ _ _ _ _ _ => body.getD j (.Pass ⟨0, 0, 0, 0⟩)
  | _ => .Pass ⟨0, 0, 0, 0⟩
def defArgs (s : Stmt) : Arguments := match s with
  | .FunctionDef _ a _ _ _ _ _ _ _ _ => a
  | _ => { posonlyargs := [], args := [], vararg := none, kwonlyargs := [], kw_defaults := [], kwarg := none, defaults := [] }
def defBody (s : Stmt) : List Stmt := match s with
  | .FunctionDef _ _ b _ _ _ _ _ _ _ => b
  | _ => []
def defScope (s : Stmt) : Scope := match s with
  | .FunctionDef _ _ _ _ _ _ sc _ _ _ => sc
  | _ => { kind := .function, names := [], isGenerator := false, isCoroutine := false }

/-! ### no exception leaves a def -/
abbrev CX0 : CXT := fun _ _ _ _ _ _ => False
abbrev E0 : XK := fun _ _ _ => False
theorem pass0 {X : Cx} : Passes CX0 X E0 := fun _ _ _ _ _ _ _ h => h.elim

/-! ### a def (or method) of the text as it stands behind the top -/
structure Fun (K : PySem.W.Frag) (x qual : Str) (st : Stmt) (f : Addr) (fd : FuncData) : Prop where
  ex : ∃ (oc : Value) (od : Option Addr) (kV doc pm : Value) (an : Option Addr) (cdv ct : Value) (osl : Array (Option Value)),
    fd = PySem.W.fnOf x qual (defArgs st) (defBody st) (defScope st) .none kV doc pm an cdv ct ∧ K.lookup f = some ⟨oc, od, .func fd, osl⟩ ∧ PySem.W.codeIn K cdv qual = true
  kp : PySem.W.keepIn K (.ref f) = true
section
variable {P : Program} {w : World} {K : PySem.W.Frag} {mg : Str → Option Value} {base : Heap}
/-- THE RULE for a def: its body as a term of rules, and the reading of that term -/
theorem Fun.ok {x qual : Str} {st : Stmt} {f : Addr} {fd : FuncData} {N ps : List Str} {k : Nat} {sp : Sp} (F : Fun K x qual st f fd) (S : FnScope N ps (defScope st)) (len : ∀ vs H Q E, sp vs H Q E → vs.length = ps.length)
    (hbody : ∀ (cdv : Value) (A : Around) (outer : List Env) (s : Shared) (H : Hp) (vs : List V) (Q : VK) (E : XK), Room k (A.deeper (envOfC qual (defScope st) s.heap.objs.size f cdv)) → sp vs H Q E →
      ∃ t, PSs (cxOf CX0 P w K mg base N qual (defScope st) f cdv A outer s H E).nox (defBody st) t ∧ t { nx := fun _ H' => Q .non H', rt := Q } (start N vs) H) : FnOk P w K mg base CX0 (k + 1) f fd ps sp := by
  obtain ⟨oc, od, kV, doc, pm, an, cdv, ct, osl, rfl, lk, hcd⟩ := F.ex
  refine fn_of lk hcd S len fun A outer s H vs Q E hr hsp => ?_
  obtain ⟨t, h, q⟩ := hbody cdv A outer s H vs Q E hr hsp
  exact ⟨t, h.nox, q⟩
/-- how its arguments bind (no defaults): h is «fun _ _ _ _ _ _ us hl => match us, hl with | [_, _], _ => rfl», one _ a parameter -/
theorem Fun.binds {x qual : Str} {st : Stmt} {f : Addr} {fd : FuncData} {ps : List Str} (F : Fun K x qual st f fd)
    (h : ∀ (kV doc pm : Value) (an : Option Addr) (cdv ct : Value) (us : List Value), us.length = ps.length → bindArgs (PySem.W.fnOf x qual (defArgs st) (defBody st) (defScope st) .none kV doc pm an cdv ct) ⟨us, []⟩ = pure (ps.zip us)) : Binds K fd ps [] := by
  obtain ⟨oc, od, kV, doc, pm, an, cdv, ct, osl, rfl, lk, hcd⟩ := F.ex
  exact .all (h kV doc pm an cdv ct)
theorem fun_mk {x qual : Str} {st : Stmt} {f : Addr} {oc : Value} {od an : Option Addr} {osl : Array (Option Value)} {kV doc pm cdv ct : Value} (l : K.lookup f = some ⟨oc, od, .func (PySem.W.fnOf x qual (defArgs st) (defBody st) (defScope st) .none kV doc pm an cdv ct), osl⟩)
    (c : PySem.W.codeIn K cdv qual = true) (k : PySem.W.keepIn K (.ref f) = true) : Fun K x qual st f (PySem.W.fnOf x qual (defArgs st) (defBody st) (defScope st) .none kV doc pm an cdv ct) := ⟨⟨oc, od, kV, doc, pm, an, cdv, ct, osl, rfl, l, c⟩, k⟩
end
theorem hu_of {A : Around} {k : Nat} (hr : Room k A) : A.units + 1 < cLine := Nat.lt_of_le_of_lt (Nat.add_le_add_left (by decide : 1 ≤ 64) _) hr.units
theorem small1000 {n : Nat} (h : n ≤ 1000) : n < sizeLine := Nat.lt_of_le_of_lt h (by decide)

/-! ### expressions in short: the name that stands in the i-th slot -/
section
variable {X : Cx}
theorem pv (i : Nat) {x : Str} {pos : Pos} (hN : X.N[i]? = some x := by rfl) (hv : Vis X.env.scope x := by first | exact Or.inl rfl | exact Or.inr (Or.inl rfl) | exact Or.inr (Or.inr rfl)) (hd : (x == ("__debug__" : Str)) = false := by decide)
    (hcd : (x == ("__classdict__" : Str)) = false := by decide) : PE X (.Name x pos) (tVar i) := pe_var hN hv hd hcd
/-- len of a dict -/
theorem call_lenD : CallR X (.builtin "len") (fun xs H Q => ∃ a kvs, xs = [V.ref a] ∧ H a = some (.dK kvs) ∧ Q (.int kvs.length) H) := by
  intro pins s σ H xs us Q I r h
  obtain ⟨a, kvs, rfl, ha, q⟩ := h
  obtain ⟨u, rfl, ru⟩ := vals1 r
  cases ru
  exact d_len I (.inl ha) fun t s' I' => ⟨.int kvs.length, H, I', ⟨t, rfl⟩, q⟩
end

/-! ### tests -/
theorem iteF {A B : Prop} (h : B) : if false = true then A else B := by
  rw [if_neg Bool.false_ne_true]
  exact h
theorem iteT {A B : Prop} (h : A) : if true = true then A else B := by
  rw [if_pos rfl]
  exact h
theorem ite2 {c A B : Prop} [Decidable c] (h1 : c → A) (h2 : ¬ c → B) : if c then A else B := by
  by_cases h : c
  · rw [if_pos h]
    exact h1 h
  · rw [if_neg h]
    exact h2 h
theorem iteNS {c A B : Prop} [Decidable c] (hc : c) (h : B) : if (!decide c) = true then A else B := by
  rw [decide_eq_true hc]
  exact iteF h

/-! ### heaps -/
/-- all that was tracked is as it was -/
def Same (H H' : Hp) : Prop := ∀ b o, H b = some o → H' b = some o
theorem Same.refl (H : Hp) : Same H H := fun _ _ h => h
theorem Same.trans {H H1 H2 : Hp} (a : Same H H1) (b : Same H1 H2) : Same H H2 := fun c o h => b c o (a c o h)
theorem Same.free {H H' : Hp} (e : Same H H') {l : Addr} (h : H' l = Option.none) : H l = Option.none := by
  cases q : H l with
  | none => rfl
  | some o =>
    rw [e l o q] at h
    cases h
theorem Same.seq {K : PySem.W.Frag} {H H' : Hp} {a : Addr} {xs : List V} (e : Same H H') (h : SqL K H a xs) : SqL K H' a xs := by
  rcases h with (h | ⟨o, h⟩) | h
  · exact .inl (.inl (e _ _ h))
  · exact .inl (.inr ⟨o, e _ _ h⟩)
  · exact .inr h

/-! ### a dict's pairs: keys that differ -/
section
variable {κ : Type} [DecidableEq κ]
theorem valV_not {kvs : List (κ × V)} {k : κ} (h : valV kvs k = none) : ¬ k ∈ kvs.map (·.1) := by
  intro m
  obtain ⟨p, hp, e⟩ := List.mem_map.mp m
  have q : (kvs.any fun kv => decide (kv.1 = k)) = true := List.any_eq_true.mpr ⟨p, hp, decide_eq_true e⟩
  rw [valV_any, h] at q
  exact absurd q (by simp)
theorem valV_in {kvs : List (κ × V)} {k : κ} {v : V} (h : valV kvs k = some v) : k ∈ kvs.map (·.1) := by
  have q : (kvs.any fun kv => decide (kv.1 = k)) = true := by
    rw [valV_any, h]
    all_goals rfl
  obtain ⟨p, hp, e⟩ := List.any_eq_true.mp q
  exact List.mem_map.mpr ⟨p, hp, of_decide_eq_true e⟩
theorem nd_snoc : ∀ {l : List κ} {k : κ}, l.Nodup → ¬ k ∈ l → (l ++ [k]).Nodup
  | [], k, _, _ => by simp
  | a :: r, k, h, hk => by
    obtain ⟨h1, h2⟩ := List.nodup_cons.mp h
    show (a :: (r ++ [k])).Nodup
    refine List.nodup_cons.mpr ⟨fun m => ?_, nd_snoc h2 fun m => hk (List.mem_cons.mpr (Or.inr m))⟩
    rcases List.mem_append.mp m with q | q
    · exact h1 q
    · exact hk (List.mem_cons.mpr (Or.inl (List.mem_singleton.mp q).symm))
theorem nd_putK {kvs : List (κ × V)} {k : κ} (v : V) (hn : (kvs.map (·.1)).Nodup) (h : valV kvs k = none) : ((putK kvs k v).map (·.1)).Nodup := by
  rw [putK_new v h, List.map_append]
  exact nd_snoc hn (valV_not h)
theorem dropK_pos {p : κ × V} {r : List (κ × V)} {k : κ} (e : p.1 = k) : dropK (p :: r) k = dropK r k := by
  unfold dropK
  rw [List.filter_cons, if_neg (by simp [e])]
theorem dropK_neg {p : κ × V} {r : List (κ × V)} {k : κ} (e : ¬ p.1 = k) : dropK (p :: r) k = p :: dropK r k := by
  unfold dropK
  rw [List.filter_cons, if_pos (by simp [e])]
theorem dropK_no : ∀ {kvs : List (κ × V)} {k : κ}, ¬ k ∈ kvs.map (·.1) → dropK kvs k = kvs
  | [], _, _ => rfl
  | p :: r, k, h => by
    have h' : ¬ k ∈ r.map (·.1) := fun m => by
      obtain ⟨q, hq, e⟩ := List.mem_map.mp m
      exact h (List.mem_map.mpr ⟨q, List.mem_cons.mpr (Or.inr hq), e⟩)
    rw [dropK_neg fun e => h (List.mem_map.mpr ⟨p, List.mem_cons.mpr (Or.inl rfl), e⟩), dropK_no h']
theorem dropK_mem {kvs : List (κ × V)} {k : κ} {p : κ × V} (h : p ∈ dropK kvs k) : p ∈ kvs := (List.mem_filter.mp h).1
theorem nd_dropK : ∀ {kvs : List (κ × V)} {k : κ}, (kvs.map (·.1)).Nodup → ((dropK kvs k).map (·.1)).Nodup
  | [], _, _ => List.nodup_nil
  | p :: r, k, h => by
    have h : (p.1 :: r.map (·.1)).Nodup := h
    obtain ⟨h1, h2⟩ := List.nodup_cons.mp h
    by_cases e : p.1 = k
    · rw [dropK_pos e]
      exact nd_dropK h2
    · rw [dropK_neg e]
      show (p.1 :: (dropK r k).map (·.1)).Nodup
      refine List.nodup_cons.mpr ⟨fun m => h1 ?_, nd_dropK h2⟩
      obtain ⟨q, hq, eq⟩ := List.mem_map.mp m
      exact List.mem_map.mpr ⟨q, dropK_mem hq, eq⟩
theorem dropK_len : ∀ {kvs : List (κ × V)} {k : κ}, (kvs.map (·.1)).Nodup → k ∈ kvs.map (·.1) → (dropK kvs k).length + 1 = kvs.length
  | [], _, _, m => by simp at m
  | p :: r, k, h, m => by
    have h : (p.1 :: r.map (·.1)).Nodup := h
    have m : k = p.1 ∨ k ∈ r.map (·.1) := List.mem_cons.mp m
    obtain ⟨h1, h2⟩ := List.nodup_cons.mp h
    by_cases e : p.1 = k
    · subst e
      rw [dropK_pos rfl, dropK_no h1]
      all_goals rfl
    · have m' : k ∈ r.map (·.1) := m.resolve_left fun z => e z.symm
      have q := dropK_len h2 m'
      rw [dropK_neg e, List.length_cons, List.length_cons]
      omega
end
end L2

set_option maxHeartbeats 4000000
/-! ### The sort of fewer than 64 items, as the tree of its questions: it puts them in order -/
namespace Sx
open PySem.W PyProof.Rows

/-- what the tree gives where the question (i, j) is answered by lt i j; each place asked lies below N -/
def Wp {α : Type} (N : Nat) (lt : Nat → Nat → Bool) : KasT α → (α → Prop) → Prop
  | .ret a, Q => Q a
  | .ask i j k, Q => i < N ∧ j < N ∧ Wp N lt (k (lt i j)) Q
theorem Wp.bind {α β : Type} {N : Nat} {lt : Nat → Nat → Bool} {f : α → KasT β} {Q : β → Prop} : ∀ (t : KasT α), Wp N lt t (fun a => Wp N lt (f a) Q) → Wp N lt (t.bind f) Q
  | .ret _, h => h
  | .ask _ _ k, ⟨h1, h2, h⟩ => ⟨h1, h2, Wp.bind (k _) h⟩
theorem Wp.mono {α : Type} {N : Nat} {lt : Nat → Nat → Bool} {Q R : α → Prop} (hq : ∀ a, Q a → R a) : ∀ (t : KasT α), Wp N lt t Q → Wp N lt t R
  | .ret a, h => hq a h
  | .ask _ _ k, ⟨h1, h2, h⟩ => ⟨h1, h2, Wp.mono hq (k _) h⟩

section
variable {O : KeyOrd} (key : Nat → O.α)
/-- the key at a place -/
def KP (p : Array Nat) (i : Nat) : O.α := key (p[i]?.getD 0)
def Up (p : Array Nat) (k : Nat) : Prop := ∀ i j, i ≤ j → j < k → O.kle (KP key p i) (KP key p j)
def Down (p : Array Nat) (k : Nat) : Prop := ∀ i j, i ≤ j → j < k → O.kle (KP key p j) (KP key p i)
def ltK (i j : Nat) : Bool := O.blt (key i) (key j)
/-- p is the numbers below N in some order -/
def PB (N : Nat) (p : Array Nat) : Prop := p.Perm (List.range N).toArray
end
theorem PB.size {N : Nat} {p : Array Nat} (h : PB N p) : p.size = N := by
  have := Array.Perm.size_eq h
  simpa using this
theorem PB.below {N : Nat} {p : Array Nat} (h : PB N p) {i : Nat} (hi : i < N) : p.getD i 0 < N := by
  have hs := h.size
  have hi' : i < p.size := by omega
  have e : p.getD i 0 = p[i] := by simp [Array.getD, hi']
  have hm : p[i] ∈ (List.range N).toArray := (Array.Perm.mem_iff h).mp (Array.getElem_mem hi')
  rw [e]
  simpa using hm
theorem getD_eq (p : Array Nat) (i : Nat) : p.getD i 0 = p[i]?.getD 0 := by simp
theorem PB.rev {N : Nat} {p : Array Nat} (h : PB N p) (i j : Nat) : PB N (kas_rev p i j) := (mirror_perm _ _ _ _).trans h
theorem PB.bub {N : Nat} {p : Array Nat} (h : PB N p) (i j : Nat) : PB N (bubble p i j) := (bubble_perm _ _ _).trans h

section
variable {O : KeyOrd} {key : Nat → O.α} {N : Nat} {p : Array Nat}
theorem KP_rev {i j : Nat} (hj : j ≤ p.size) (k : Nat) : KP key (kas_rev p i j) k = if i ≤ k ∧ k < j then KP key p (i + j - 1 - k) else KP key p k := by
  have e := getElem?_mirror_all (xs := p) (i := i) hj k
  unfold KP kas_rev
  rw [e]
  by_cases h : i ≤ k ∧ k < j
  · rw [if_pos h, if_pos h]
  · rw [if_neg h, if_neg h]
theorem KP_bub {src d : Nat} (hs : src < p.size) (hd : d ≤ src) (k : Nat) :
    KP key (bubble p src d) k = if k = src - d then KP key p src else if src - d < k ∧ k ≤ src then KP key p (k - 1) else KP key p k := by
  have e := getElem?_bubble hs d hd k
  unfold KP
  rw [e]
  by_cases h : k = src - d
  · rw [if_pos h, if_pos h]
  · rw [if_neg h, if_neg h]
    by_cases h2 : src - d < k ∧ k ≤ src
    · rw [if_pos h2, if_pos h2]
    · rw [if_neg h2, if_neg h2]
/-- a stretch of alike keys turned about stays -/
theorem KP_rev_alike {i j : Nat} (hj : j ≤ p.size) (he : ∀ k, i ≤ k → k < j → KP key p k = KP key p (j - 1)) (k : Nat) : KP key (kas_rev p i j) k = KP key p k := by
  rw [KP_rev hj]
  by_cases h : i ≤ k ∧ k < j
  · rw [if_pos h, he _ (by omega) (by omega), he k h.1 h.2]
  · rw [if_neg h]
theorem lt_true {i j : Nat} (h : ltK key (p.getD i 0) (p.getD j 0) = true) : O.klt (KP key p i) (KP key p j) := by
  rw [getD_eq, getD_eq] at h
  exact h
theorem lt_false {i j : Nat} (h : ltK key (p.getD i 0) (p.getD j 0) = false) : O.kle (KP key p j) (KP key p i) := by
  rw [getD_eq, getD_eq] at h
  exact h
theorem Up.grow {n : Nat} (h : Up key p n) (h1 : 1 ≤ n) (hn : O.kle (KP key p (n - 1)) (KP key p n)) : Up key p (n + 1) := fun i j hij hj => by
  by_cases e : j < n
  · exact h i j hij e
  · obtain rfl : j = n := by omega
    by_cases e2 : i = j
    · subst e2; exact KeyOrd.kle_refl _
    · exact KeyOrd.kle_trans (h i (j - 1) (by omega) (by omega)) hn
theorem Down.grow {n : Nat} (h : Down key p n) (h1 : 1 ≤ n) (hn : O.kle (KP key p n) (KP key p (n - 1))) : Down key p (n + 1) := fun i j hij hj => by
  by_cases e : j < n
  · exact h i j hij e
  · obtain rfl : j = n := by omega
    by_cases e2 : i = j
    · subst e2; exact KeyOrd.kle_refl _
    · exact KeyOrd.kle_trans hn (h i (j - 1) (by omega) (by omega))
theorem Up.one : Up key p 1 := fun i j hij hj => by
  obtain rfl : i = j := by omega
  exact KeyOrd.kle_refl _

theorem asc_wp {Q : Nat → Prop} : ∀ (f n : Nat), PB N p → 1 ≤ n → n + f ≤ N → Up key p n →
    (∀ m, n ≤ m → m ≤ n + f → Up key p m → (m = n + f ∨ O.klt (KP key p m) (KP key p (m - 1))) → Q m) → Wp N (ltK key) (kas_asc p f n) Q
  | 0, n, _, _, _, hu, h => h n (Nat.le_refl _) (Nat.le_refl _) hu (.inl rfl)
  | f + 1, n, hp, h1, hn, hu, h => by
    refine ⟨hp.below (by omega), hp.below (by omega), ?_⟩
    cases c : ltK key (p.getD n 0) (p.getD (n - 1) 0) with
    | true => exact h n (Nat.le_refl _) (by omega) hu (.inr (lt_true c))
    | false =>
      exact asc_wp f (n + 1) hp (by omega) (by omega) (hu.grow h1 (lt_false c)) fun m a b u d => h m (by omega) (by omega) u (d.imp (fun e => by omega) id)
theorem desc_wp {Q : Array Nat × Nat × Nat → Prop} : ∀ (f n q : Nat) (p : Array Nat), PB N p → 1 ≤ n → n + f ≤ N → Down key p n → q + 1 ≤ n → (∀ i, n - (q + 1) ≤ i → i < n → KP key p i = KP key p (n - 1)) →
    (∀ p' m q', PB N p' → n ≤ m → m ≤ n + f → Down key p' m → q' + 1 ≤ m → (∀ i, m - (q' + 1) ≤ i → i < m → KP key p' i = KP key p' (m - 1)) → Q (p', m, q')) → Wp N (ltK key) (kas_desc f p n q) Q
  | 0, n, q, p, hp, _, _, hd, hq, he, h => h p n q hp (Nat.le_refl _) (Nat.le_refl _) hd hq he
  | f + 1, n, q, p, hp, h1, hn, hd, hq, he, h => by
    refine ⟨hp.below (by omega), hp.below (by omega), ?_⟩
    have hz : n ≤ p.size := by rw [hp.size]; omega
    have alone : ∀ (r : Array Nat) i, n + 1 - (0 + 1) ≤ i → i < n + 1 → KP key r i = KP key r (n + 1 - 1) := fun r i a b => by
      obtain rfl : i = n + 1 - 1 := by omega
      rfl
    cases c : ltK key (p.getD n 0) (p.getD (n - 1) 0) with
    | true =>
      have g := hd.grow h1 (KeyOrd.kle_of_klt (lt_true c))
      show Wp N (ltK key) (if q > 0 then _ else _) Q
      by_cases e : q > 0
      · rw [if_pos e]
        have same := KP_rev_alike (key := key) (p := p) (i := n - (q + 1)) hz he
        exact desc_wp f (n + 1) 0 _ (hp.rev _ _) (by omega) (by omega) (fun i j a b => by rw [same, same]; exact g i j a b) (by omega) (alone _)
          fun p' m q' a b d u v w => h p' m q' a (by omega) (by omega) u v w
      · rw [if_neg e]
        exact desc_wp f (n + 1) 0 _ hp (by omega) (by omega) g (by omega) (alone _) fun p' m q' a b d u v w => h p' m q' a (by omega) (by omega) u v w
    | false =>
      show Wp N (ltK key) (KasT.ask _ _ _) Q
      refine ⟨hp.below (by omega), hp.below (by omega), ?_⟩
      cases d : ltK key (p.getD (n - 1) 0) (p.getD n 0) with
      | true => exact h p n q hp (Nat.le_refl _) (by omega) hd hq he
      | false =>
        have eq : KP key p n = KP key p (n - 1) := KeyOrd.kle_antisymm (lt_false d) (lt_false c)
        refine desc_wp f (n + 1) (q + 1) p hp (by omega) (by omega) (hd.grow h1 (lt_false d)) (by omega) (fun i a b => ?_) fun p' m q' a b d u v w => h p' m q' a (by omega) (by omega) u v w
        show KP key p i = KP key p n
        by_cases e : i = n
        · rw [e]
        · rw [he i (by omega) (by omega), eq]
theorem tail3_wp {n nrem : Nat} {Q : Nat × Array Nat → Prop} (hp : PB N p) (h1 : 1 ≤ n) (hn : n ≤ nrem) (hN : nrem ≤ N) (hd : Down key p n)
    (h : ∀ m p', PB N p' → 1 ≤ m → m ≤ nrem → Up key p' m → Q (m, p')) : Wp N (ltK key) (kas_tail3 n nrem p) Q := by
  have hz : n ≤ p.size := by rw [hp.size]; omega
  refine Wp.bind _ (asc_wp (nrem - n) n (hp.rev 0 n) h1 (by omega) (fun i j hij hj => ?_) fun m a b u _ => h m _ (hp.rev 0 n) (by omega) (by omega) u)
  rw [KP_rev hz, KP_rev hz, if_pos ⟨Nat.zero_le _, by omega⟩, if_pos ⟨Nat.zero_le _, hj⟩]
  exact hd _ _ (by omega) (by omega)
theorem descPart_wp {n nrem : Nat} {Q : Nat × Array Nat → Prop} (hp : PB N p) (hn : n + 1 ≤ nrem) (hN : nrem ≤ N) (hd : Down key p (n + 1))
    (h : ∀ m p', PB N p' → 1 ≤ m → m ≤ nrem → Up key p' m → Q (m, p')) : Wp N (ltK key) (kas_descPart n nrem p) Q := by
  refine Wp.bind _ (desc_wp (nrem - (n + 1)) (n + 1) 0 p hp (by omega) (by omega) hd (by omega) (fun i a b => by congr 1; omega) fun p' m q' hp' a b hd' hq he => ?_)
  have hz : m ≤ p'.size := by rw [hp'.size]; omega
  show Wp N (ltK key) (if q' > 0 then kas_tail3 m nrem (kas_rev p' (m - (q' + 1)) m) else kas_tail3 m nrem p') Q
  by_cases e : q' > 0
  · rw [if_pos e]
    have same := KP_rev_alike (key := key) (p := p') (i := m - (q' + 1)) hz he
    exact tail3_wp (hp'.rev _ _) (by omega) (by omega) hN (fun i j a b => by rw [same, same]; exact hd' i j a b) h
  · rw [if_neg e]
    exact tail3_wp hp' (by omega) (by omega) hN hd' h
theorem count_wp {nrem : Nat} {Q : Nat × Array Nat → Prop} (hp : PB N p) (h1 : 1 ≤ nrem) (hN : nrem ≤ N)
    (h : ∀ m p', PB N p' → 1 ≤ m → m ≤ nrem → Up key p' m → Q (m, p')) : Wp N (ltK key) (kas_count nrem p) Q := by
  refine Wp.bind _ (asc_wp (nrem - 1) 1 hp (Nat.le_refl _) (by omega) Up.one fun n a b u d => ?_)
  have hz : n ≤ p.size := by rw [hp.size]; omega
  show Wp N (ltK key) (if (n == nrem) = true then _ else _) Q
  by_cases e : n = nrem
  · rw [if_pos (by simpa using e)]
    exact h n p hp (by omega) (by omega) u
  · rw [if_neg (by simpa using e)]
    have lt : O.klt (KP key p n) (KP key p (n - 1)) := d.resolve_left (by omega)
    by_cases e2 : n > 1
    · rw [if_pos e2]
      refine ⟨hp.below (by omega), hp.below (by omega), ?_⟩
      cases c : ltK key (p.getD 0 0) (p.getD (n - 1) 0) with
      | true => exact h n p hp (by omega) (by omega) u
      | false =>
        have all : ∀ k, 0 ≤ k → k < n → KP key p k = KP key p (n - 1) := fun k _ hk =>
          KeyOrd.kle_antisymm (u k (n - 1) (by omega) (by omega)) (KeyOrd.kle_trans (lt_false c) (u 0 k (by omega) hk))
        have same := KP_rev_alike (key := key) (p := p) (i := 0) hz all
        refine descPart_wp (hp.rev _ _) (by omega) hN (fun i j hij hj => ?_) h
        rw [same, same]
        by_cases z : j < n
        · rw [all i (by omega) (by omega), all j (by omega) z]; exact KeyOrd.kle_refl _
        · obtain rfl : j = n := by omega
          by_cases z2 : i = j
          · subst z2; exact KeyOrd.kle_refl _
          · rw [all i (by omega) (by omega)]; exact KeyOrd.kle_of_klt lt
    · rw [if_neg e2]
      obtain rfl : n = 1 := by omega
      refine descPart_wp hp (by omega) hN (fun i j hij hj => ?_) h
      by_cases z : i = j
      · subst z; exact KeyOrd.kle_refl _
      · obtain rfl : i = 0 := by omega
        obtain rfl : j = 1 := by omega
        exact KeyOrd.kle_of_klt lt
theorem place_wp {k : Nat} {Q : Nat → Prop} (hp : PB N p) (hk : k < N) (hu : Up key p k) : ∀ (f l r : Nat), l ≤ r → r ≤ k → r - l ≤ f → (∀ i, i < l → O.kle (KP key p i) (KP key p k)) → (∀ i, r ≤ i → i < k → O.klt (KP key p k) (KP key p i)) →
    (∀ l, l ≤ k → (∀ i, i < l → O.kle (KP key p i) (KP key p k)) → (∀ i, l ≤ i → i < k → O.klt (KP key p k) (KP key p i)) → Q l) → Wp N (ltK key) (kas_place p k f l r) Q
  | 0, l, r, a, b, c, lo, hi, h => h l (by omega) lo (fun i x y => hi i (by omega) y)
  | f + 1, l, r, a, b, c, lo, hi, h => by
    unfold kas_place
    by_cases e : l ≥ r
    · rw [if_pos e]
      exact h l (by omega) lo (fun i x y => hi i (by omega) y)
    · rw [if_neg e]
      refine ⟨hp.below hk, hp.below (by omega), ?_⟩
      cases d : ltK key (p.getD k 0) (p.getD ((l + r) / 2) 0) with
      | true => exact place_wp hp hk hu f l ((l + r) / 2) (by omega) (by omega) (by omega) lo (fun i x y => KeyOrd.klt_of_klt_of_kle (lt_true d) (hu _ _ x y)) h
      | false => exact place_wp hp hk hu f ((l + r) / 2 + 1) r (by omega) b (by omega) (fun i x => KeyOrd.kle_trans (hu i ((l + r) / 2) (by omega) (by omega)) (lt_false d)) hi h
theorem bin_wp {Q : Array Nat → Prop} : ∀ (f k : Nat) (p : Array Nat), PB N p → k + f = N → Up key p k → (∀ p', PB N p' → Up key p' N → Q p') → Wp N (ltK key) (kas_bin f p k) Q
  | 0, k, p, hp, hk, hu, h => h p hp (by rw [← hk]; exact hu)
  | f + 1, k, p, hp, hk, hu, h => by
    refine Wp.bind _ (place_wp hp (by omega) hu k 0 k (Nat.zero_le _) (Nat.le_refl _) (by omega) (fun i x => by omega) (fun i x y => by omega) fun l hl lo hi => ?_)
    refine bin_wp f (k + 1) _ (hp.bub _ _) (by omega) (fun i j hij hj => ?_) h
    have hz : k < p.size := by rw [hp.size]; omega
    rw [KP_bub hz (by omega), KP_bub hz (by omega), show k - (k - l) = l by omega]
    repeat' split
    all_goals first
      | (exfalso; omega)
      | exact KeyOrd.kle_refl _
      | exact lo _ (by omega)
      | exact KeyOrd.kle_of_klt (hi _ (by omega) (by omega))
      | exact hu _ _ (by omega) (by omega)
/-- THE SORT -/
theorem sort_wp {n : Nat} (h1 : 1 ≤ n) {Q : Array Nat → Prop} (h : ∀ p, PB n p → Up key p n → Q p) : Wp n (ltK key) (kas_sort n) Q := by
  refine Wp.bind _ (count_wp (Array.Perm.refl _) h1 (Nat.le_refl _) fun m p' hp a b u => ?_)
  show Wp n (ltK key) (if m < n then _ else _) Q
  by_cases e : m < n
  · rw [if_pos e, show max m 1 = m by omega]
    exact bin_wp (n - m) m p' hp (by omega) u h
  · rw [if_neg e]
    obtain rfl : m = n := by omega
    exact h p' hp u
end
end Sx

/-! ### lists of tuples of ints: the order, the comparison, list.sort -/
namespace Sx
open PySem PySem.W PyProof.Rows

theorem lex_irr : ∀ a : List Int, HT.lexLt a a = false
  | [] => rfl
  | x :: xs => by rw [HT.lexLt_cons, if_pos rfl]; exact lex_irr xs
theorem lex_trans : ∀ a b c : List Int, HT.lexLt a b = true → HT.lexLt b c = true → HT.lexLt a c = true
  | [], _, [], h1, h2 => by
    rename_i b
    cases b with
    | nil => exact h1
    | cons y ys => rw [HT.lexLt_cons_nil] at h2; cases h2
  | [], _, _ :: _, _, _ => rfl
  | x :: xs, [], _, h1, _ => by rw [HT.lexLt_cons_nil] at h1; cases h1
  | x :: xs, y :: ys, [], _, h2 => by rw [HT.lexLt_cons_nil] at h2; cases h2
  | x :: xs, y :: ys, z :: zs, h1, h2 => by
    rw [HT.lexLt_cons] at h1 h2 ⊢
    by_cases e1 : x = y
    · subst e1
      rw [if_pos rfl] at h1
      by_cases e2 : x = z
      · rw [if_pos e2] at h2 ⊢
        exact lex_trans xs ys zs h1 h2
      · rw [if_neg e2] at h2 ⊢
        exact h2
    · rw [if_neg e1] at h1
      have l1 : x < y := of_decide_eq_true h1
      by_cases e2 : y = z
      · subst e2
        rw [if_neg e1]
        exact h1
      · rw [if_neg e2] at h2
        have l2 : y < z := of_decide_eq_true h2
        rw [if_neg (by omega)]
        exact decide_eq_true (by omega)
theorem lex_tot : ∀ a b : List Int, HT.lexLt a b = false → HT.lexLt b a = false → a = b
  | [], [], _, _ => rfl
  | [], _ :: _, h, _ => by rw [HT.lexLt_nil_cons] at h; cases h
  | _ :: _, [], _, h => by rw [HT.lexLt_nil_cons] at h; cases h
  | x :: xs, y :: ys, h1, h2 => by
    rw [HT.lexLt_cons] at h1 h2
    by_cases e : x = y
    · subst e
      rw [if_pos rfl] at h1 h2
      rw [lex_tot xs ys h1 h2]
    · rw [if_neg e] at h1
      rw [if_neg (Ne.symm e)] at h2
      have l1 : ¬ x < y := of_decide_eq_false h1
      have l2 : ¬ y < x := of_decide_eq_false h2
      omega
theorem lex_neg (a b c : List Int) (h : HT.lexLt a c = true) : HT.lexLt a b = true ∨ HT.lexLt b c = true := by
  cases e1 : HT.lexLt a b with
  | true => exact .inl rfl
  | false =>
    refine .inr ?_
    cases e2 : HT.lexLt b a with
    | true => exact lex_trans b a c e2 h
    | false =>
      have e := lex_tot a b e1 e2
      subst e
      exact h
/-- the order of tuples of ints -/
def lexO : KeyOrd where
  α := List Int
  blt := HT.lexLt
  irrefl := lex_irr
  trans := lex_trans
  negTrans := lex_neg
  total := lex_tot

/-- a tree whose questions are answered by lt, at a state that stays -/
theorem Wp.kas {α : Type} {N : Nat} {lt : Nat → Nat → Bool} {cmp : Nat → Nat → (Bool → Shared → Prop) → Shared → Prop} {Q : α → Prop} {G : α → Shared → Prop} {s : Shared}
    (hc : ∀ i j C, i < N → j < N → C (lt i j) s → cmp i j C s) (hG : ∀ a, Q a → G a s) : ∀ t : KasT α, Wp N lt t Q → t.kasWp cmp G s
  | .ret a, h => hG a h
  | .ask i j k, ⟨h1, h2, h⟩ => hc i j _ h1 h2 (Wp.kas hc hG (k _) h)

section
variable {prog : Program} {w : World} {A : Around} {E : Value → Shared → Prop} {s : Shared}
/-- two tuples of ints compared as list.sort does -/
theorem kat_ints {b fin : Bool} {Q : Bool → Shared → Prop} : ∀ {vs us : List Value} {ns ms : List Int} (i : Nat), IntsAre vs ns → IntsAre us ms → fin = decide (ns.length < ms.length) → Q (HT.lexLt ns ms) s →
    KatLex prog w A b fin Q (vs.zip us) i s
  | _, _, _, _, i, .nil, .nil, e, h => by
    have e' : fin = false := e
    subst e'
    exact kat_nil h
  | _, _, _, _, i, .nil, .cons _ _ _, e, h => by
    have e' : fin = true := by rw [e]; exact decide_eq_true (by simp)
    subst e'
    exact kat_nil h
  | _, _, _, _, i, .cons _ _ _, .nil, e, h => by
    have e' : fin = false := by rw [e]; exact decide_eq_false (by simp)
    subst e'
    exact kat_nil h
  | _, _, _, _, i, .cons a t ha, .cons c u hc, e, h => by
    rw [List.zip_cons_cons]
    rw [HT.lexLt_cons] at h
    refine kat_cons (wpAny_eqBool_int (kat_go (fun q => ?_) fun q => ?_))
    · have ac : a = c := eq_of_beq q
      rw [if_pos ac] at h
      exact kat_yes (kat_ints (i + 1) ha hc (by rw [e]; simp) h)
    · have ac : ¬ a = c := by simpa using q
      rw [if_neg ac] at h
      refine kat_no ?_
      cases (b && i == 0) with
      | true => exact oneLt_int h
      | false => exact kat_one _ _ (PyProof.Rows.lt_int h)

/-- a tuple of ints stands at a -/
def TupI (h : Heap) (a : Addr) (t : List Int) : Prop := ∃ o its n, h.get? a = some o ∧ o.cls = .type "tuple" ∧ o.data = .seq its n ∧ IntsAre its.toList t
theorem TupI.keep {h h' : Heap} {a : Addr} {t : List Int} (x : TupI h a t) (k : ∀ o, h.get? a = some o → h'.get? a = some o) : TupI h' a t :=
  let ⟨o, its, n, e, r⟩ := x; ⟨o, its, n, k o e, r⟩
theorem lt_tups {x y : Addr} {b : Bool} {t u : List Int} {Q : Bool → Shared → Prop} (hx : TupI s.heap x t) (hy : TupI s.heap y u) (h : Q (HT.lexLt t u) s) : wpAny (model prog w) A (keyLt' (tuples' b) (.ref x) (.ref y)) Q E s := by
  obtain ⟨ox, xs, n, ex, _, dx, ix⟩ := hx
  obtain ⟨oy, ys, k, ey, _, dy, iy⟩ := hy
  refine kat_lt ex dx ey dy (kat_ints 0 ix iy ?_ h)
  rw [← ix.length, ← iy.length, Array.length_toList, Array.length_toList]
/-- the kind of keys that list.sort finds: tuples whose first items are ints -/
theorem kind_tups {rs : List Addr} {ts : List (List Int)} {Q : SortKind → Shared → Prop} (h2 : 0 < rs.length) (hp : Paired (fun r t => TupI s.heap r t ∧ t ≠ []) rs ts) (h : ∀ b, Q (tuples' b) s) :
    wpAny (model prog w) A (keyKind' (rs.map Value.ref).toArray) Q E s := by
  have all : ∃ fs : List Value, KatTups s.heap (rs.map Value.ref) fs ∧ fs.length = rs.length ∧ ∀ v ∈ fs, ∃ i t, v = Value.int i t := by
    clear h h2
    induction hp with
    | nil => exact ⟨[], trivial, rfl, fun v hv => nomatch hv⟩
    | @cons r t rs ts hr _ ih =>
      obtain ⟨fs, k1, k2, k3⟩ := ih
      obtain ⟨⟨o, its, n, e, c, d, ii⟩, hne⟩ := hr
      cases t with
      | nil => exact absurd rfl hne
      | cons i t =>
        generalize hL : its.toList = L at ii
        cases ii with
        | cons _ tk ii' =>
          have h0 : its[0]? = some (Value.int i tk) := by rw [← Array.getElem?_toList, hL]; rfl
          refine ⟨Value.int i tk :: fs, ⟨⟨r, o, its, n, rfl, e, c, d, h0⟩, k1⟩, by rw [List.length_cons, List.length_cons, k2], fun v hv => ?_⟩
          rcases List.mem_cons.mp hv with rfl | hv
          · exact ⟨i, tk, rfl⟩
          · exact k3 v hv
  obtain ⟨fs, k1, k2, k3⟩ := all
  refine kat_kind (T := .type "int") k1 (by omega) (fun v hv => ?_) (by decide) (h _)
  obtain ⟨i, tk, rfl⟩ := k3 v hv
  exact Looks.of_pure rfl

/-- what list.sort leaves: the addresses of the tuples in the order of the tuples -/
structure Sorted (rs : List Addr) (ts : List (List Int)) (rs' : List Addr) (ts' : List (List Int)) : Prop where
  perm : (rs'.zip ts').Perm (rs.zip ts)
  len : rs'.length = ts'.length
  ord : ts'.Pairwise fun a b => HT.lexLt b a = false
end
end Sx

namespace Sx
open PySem PySem.W PyProof.Rows
theorem range_zip : ∀ (rs : List Addr) (ts : List (List Int)), rs.length = ts.length → (List.range rs.length).map (fun i => (rs.getD i 0, ts.getD i [])) = rs.zip ts := by
  intro rs ts hl
  apply List.ext_getElem?
  intro i
  rw [List.getElem?_map]
  by_cases hi : i < rs.length
  · have hi2 : i < ts.length := by omega
    rw [List.getElem?_range hi, List.getElem?_eq_getElem (l := rs.zip ts) (by rw [List.length_zip]; omega), List.getElem_zip]
    simp [hi, hi2]
  · have e1 : (List.range rs.length)[i]? = none := List.getElem?_eq_none (by simpa using hi)
    have e2 : (rs.zip ts)[i]? = none := List.getElem?_eq_none (by rw [List.length_zip]; omega)
    rw [e1, e2]; rfl
theorem sorted_of {rs : List Addr} {ts : List (List Int)} {p : Array Nat} (hl : rs.length = ts.length) (hp : PB rs.length p) (hu : Up (O := lexO) (fun i => ts.getD i []) p rs.length) :
    Sorted rs ts (p.toList.map fun i => rs.getD i 0) (p.toList.map fun i => ts.getD i []) := by
  have hpl : p.toList.Perm (List.range rs.length) := by
    have := Array.perm_iff_toList_perm.mp hp
    simpa using this
  refine ⟨?_, by simp, ?_⟩
  · have e : (p.toList.map fun i => rs.getD i 0).zip (p.toList.map fun i => ts.getD i []) = p.toList.map (fun i => (rs.getD i 0, ts.getD i [])) := by
      rw [List.zip_map']
    rw [e, ← range_zip rs ts hl]
    exact hpl.map _
  · rw [List.pairwise_iff_getElem]
    intro i j hi hj hij
    rw [List.length_map, Array.length_toList] at hi hj
    have hs := hp.size
    have q := hu i j (Nat.le_of_lt hij) (by omega)
    have ei : (p.toList.map fun i => ts.getD i [])[i]'(by simpa using hi) = ts.getD (p[i]?.getD 0) [] := by simp [hi]
    have ej : (p.toList.map fun i => ts.getD i [])[j]'(by simpa using hj) = ts.getD (p[j]?.getD 0) [] := by simp [hj]
    rw [ei, ej]
    exact q
section
variable {prog : Program} {w : World} {A : Around} {E : Value → Shared → Prop} {s : Shared}
theorem pair_at {α β : Type} {F : α → β → Prop} : ∀ {l₁ : List α} {l₂ : List β} {i : Nat} {a : α}, Paired F l₁ l₂ → l₁[i]? = some a → ∃ b, l₂[i]? = some b ∧ F a b
  | _, _, _, _, .nil, e => by simp at e
  | _, _, 0, _, .cons h _, e => by simp at e; subst e; exact ⟨_, rfl, h⟩
  | _, _, i + 1, a, .cons _ t, e => by
    obtain ⟨b, h1, h2⟩ := pair_at (i := i) (a := a) t (by simpa using e)
    exact ⟨b, by simpa using h1, h2⟩
theorem refs_getD (rs : List Addr) {i : Nat} (hi : i < rs.length) : (rs.map Value.ref).getD i Value.none = .ref (rs.getD i 0) := by
  simp [hi]
/-- list.sort of a list of tuples of ints -/
theorem sort_tree {a : Addr} {rs : List Addr} {ts : List (List Int)} {n : Nat} {P : PySem.Fin → Shared → Prop} (ho : s.heap.get? a = some (seqObj "list" (rs.map Value.ref).toArray n)) (h64 : rs.length < 64)
    (hp : Paired (fun r t => TupI s.heap r t ∧ t ≠ []) rs ts) (hna : a ∉ rs)
    (h : ∀ rs' ts' h' c, Sorted rs ts rs' ts' → (∀ b o, b ≠ a → s.heap.get? b = some o → h'.get? b = some o) → h'.get? a = some (seqObj "list" (rs'.map Value.ref).toArray c) → P (.done (.ret .none)) { s with heap := h' }) :
    wpAny (model prog w) A (Builtin.«list.sort» ⟨[.ref a], []⟩) P E s := by
  have hl : rs.length = ts.length := Paired.length hp
  have hlt : a < s.heap.objs.size := Heap.lt_size ho
  rw [list_sort_plain]
  refine wpAny_bind (listItems_at ho rfl (wpAny_bind (listUpdate_at ho rfl ?_ (by rw [List.size_toArray, List.length_map, sizeLine_eq]; omega) (Nat.zero_le _))))
  obtain ⟨e1, ho1⟩ : ∃ e1, (s.heap.update a (Obj.mapSeq fun _ => (#[] : Array Value))).get? a = some (seqObj "list" #[] e1) := ⟨_, get?_update_seq ho fun _ => #[]⟩
  have sb := Heap.SameBut.update s.heap a (Obj.mapSeq fun _ => (#[] : Array Value))
  refine wpAny_bind (seqEpoch_at ho1 rfl (wpAny_bind (wpAny_newTuple ?_ (by rw [Array.length_toList, List.size_toArray, List.length_map, sizeLine_eq]; omega))))
  refine wpAny_bind (wpAny_newList (wpAny_holding ?_) (Nat.zero_le _))
  generalize hh2 : (Heap.push (Heap.push (s.heap.update a (Obj.mapSeq fun _ => (#[] : Array Value))) _) _) = h2
  have old : ∀ b o, b ≠ a → s.heap.get? b = some o → h2.get? b = some o := fun b o hb e => by
    rw [← hh2]
    exact Heap.get?_push_of_some _ (Heap.get?_push_of_some _ ((sb.2 b hb).trans e))
  have ho2 : h2.get? a = some (seqObj "list" #[] e1) := by
    rw [← hh2]
    exact Heap.get?_push_of_some _ (Heap.get?_push_of_some _ ho1)
  have fin : ∀ (rs' : List Addr) (ts' : List (List Int)), Sorted rs ts rs' ts' → ∀ (out : Array Value), out = (rs'.map Value.ref).toArray →
      P (.done (.ret .none)) { s with heap := h2.update a (Obj.mapSeq fun _ => out) } := fun rs' ts' hS out eo => by
    subst eo
    refine h rs' ts' _ _ hS (fun b o hb e => ?_) (get?_update_seq ho2 fun _ => (rs'.map Value.ref).toArray)
    exact ((Heap.SameBut.update h2 a (Obj.mapSeq fun _ => (rs'.map Value.ref).toArray)).2 b hb).trans (old b o hb e)
  have hsz : (rs.map Value.ref).toArray.size = rs.length := by rw [List.size_toArray, List.length_map]
  dsimp only
  by_cases h2' : (rs.map Value.ref).toArray.size < 2
  · rw [if_pos h2', if_pos h2']
    refine wpAny_bind (wpAny_pure ?_)
    rw [StateT.run_pure]
    refine wpAny_bind (wpAny_pure ?_)
    dsimp only
    have eo : (arrOf (SortSt.mk' general' ((rs.map Value.ref).toArray.zip (rs.map Value.ref).toArray) #[] 7 none)).map (fun x => x.2) = (rs.map Value.ref).toArray := by
      show ((rs.map Value.ref).toArray.zip (rs.map Value.ref).toArray).map (fun x => x.2) = _
      apply Array.toList_inj.mp
      simp only [Array.toList_map, Array.toList_zip, List.toList_toArray]
      exact List.map_snd_zip (Nat.le_refl _)
    refine wpAny_bind (seqEpoch_at ho2 rfl (wpAny_bind (listUpdate_at ho2 rfl ?_ (Nat.zero_le _) (by rw [eo, hsz, sizeLine_eq]; omega))))
    simp only [bne_self_eq_false, Bool.false_eq_true, if_false]
    refine wpAny_pure (fin rs ts ⟨List.Perm.refl _, hl, ?_⟩ _ eo)
    rw [List.pairwise_iff_getElem]
    intro i j hi hj hij
    exfalso
    omega
  · rw [if_neg h2', if_neg h2']
    have hp2 : Paired (fun r t => TupI h2 r t ∧ t ≠ []) rs ts := by
      clear fin h
      have go : ∀ {l : List Addr} {m : List (List Int)}, Paired (fun r t => TupI s.heap r t ∧ t ≠ []) l m → (∀ r ∈ l, r ≠ a) → Paired (fun r t => TupI h2 r t ∧ t ≠ []) l m := by
        intro l m q
        induction q with
        | nil => intro _; exact .nil
        | cons hr _ ih => intro hn; exact .cons ⟨hr.1.keep fun o e => old _ o (hn _ (.head _)) e, hr.2⟩ (ih fun r hr' => hn r (.tail _ hr'))
      exact go hp fun r hr z => hna (z ▸ hr)
    refine wpAny_bind (kind_tups (s := { s with heap := h2 }) (by omega) hp2 fun b => ?_)
    have ask : (kas_sort (rs.map Value.ref).length).kasWp (kas_ask prog w A (tuples' b) (rs.map Value.ref)) (fun p s' => s' = { s with heap := h2 } ∧ PB rs.length p ∧ Up (O := lexO) (fun i => ts.getD i []) p rs.length) { s with heap := h2 } := by
      rw [List.length_map]
      refine Wp.kas (N := rs.length) (lt := ltK (O := lexO) fun i => ts.getD i []) (Q := fun p => PB rs.length p ∧ Up (O := lexO) (fun i => ts.getD i []) p rs.length) (fun i j C hi hj hC => ?_) (fun p hq => ⟨rfl, hq⟩) _ (sort_wp (by omega) fun p a b => ⟨a, b⟩)
      have key : ∀ k, k < rs.length → TupI h2 (rs.getD k 0) (ts.getD k []) := fun k hk => by
        have er : rs[k]? = some (rs.getD k 0) := by simp [hk]
        obtain ⟨t, et, ht, _⟩ := pair_at hp2 er
        have : ts.getD k [] = t := by simp [et]
        rw [this]
        exact ht
      show wpAny (model prog w) A (keyLt' (tuples' b) ((rs.map Value.ref).getD i Value.none) ((rs.map Value.ref).getD j Value.none)) C (fun _ _ => False) { s with heap := h2 }
      rw [refs_getD rs hi, refs_getD rs hj]
      exact lt_tups (s := { s with heap := h2 }) (key i hi) (key j hj) hC
    have run := kat_run (E := E) (vs := rs.map Value.ref) (ks := rs.map Value.ref)
      (Q := fun st' s' => ∃ p : Array Nat, arrOf st' = p.map (kas_item ((rs.map Value.ref).toArray.zip (rs.map Value.ref).toArray)) ∧ failedOf st' = none ∧ s' = { s with heap := h2 } ∧ PB rs.length p ∧ Up (O := lexO) (fun i => ts.getD i []) p rs.length)
      rfl (by rw [List.length_map]; omega) (by rw [List.length_map]; exact h64) (fun p' st' s' _ a2 a3 a4 => ⟨p', a2, a3, a4⟩) ask
    refine wpAny_bind (wpAny_mono run ?_ fun _ _ e => e)
    rintro ⟨⟨⟩, st'⟩ s' ⟨p, har, hf, rfl, hpb, hup⟩
    dsimp only
    have hS := sorted_of hl hpb hup
    have eo : (arrOf st').map (fun x => x.2) = ((p.toList.map fun i => rs.getD i 0).map Value.ref).toArray := by
      refine (kat_snds (vs := rs.map Value.ref) (ks := rs.map Value.ref) rfl har).trans ?_
      congr 1
      rw [List.map_map]
      refine List.map_congr_left fun i hi => ?_
      have hi' : i < rs.length := by
        have hm : i ∈ (List.range rs.length).toArray := (Array.Perm.mem_iff hpb).mp (by simpa using hi)
        simpa using hm
      exact refs_getD rs hi'
    refine wpAny_bind (seqEpoch_at ho2 rfl (wpAny_bind (listUpdate_at ho2 rfl ?_ (Nat.zero_le _) ?_)))
    · rw [hf]
      simp only [bne_self_eq_false, Bool.false_eq_true, if_false]
      exact wpAny_pure (fin _ _ hS _ eo)
    · show ((arrOf st').map (fun x => x.2)).size ≤ _
      rw [eo, List.size_toArray, List.length_map, List.length_map, Array.length_toList, hpb.size, sizeLine_eq]
      omega
end
end Sx

/-! ### the keys of a dict, whatever they are, one after another -/
namespace Sx
open PySem PySem.W PySem.Calls PyProof.Rows
/-- a plain dict with these entries stands at d -/
def DictE (h : Heap) (d : Addr) (es : Array DictEntry) (ep : Nat) : Prop := ∃ o, h.get? d = some o ∧ o.ExactDict ∧ o.data = .dict es ep
theorem DictE.at {h h' : Heap} {d : Addr} {es : Array DictEntry} {ep : Nat} (x : DictE h d es ep) (k : ∀ o, h.get? d = some o → h'.get? d = some o) : DictE h' d es ep := let ⟨o, e, r⟩ := x; ⟨o, k o e, r⟩
theorem DictE.lt {h : Heap} {d : Addr} {es : Array DictEntry} {ep : Nat} (x : DictE h d es ep) : d < h.objs.size := let ⟨_, e, _⟩ := x; Heap.lt_size e
theorem DictE.ty {s : Shared} {d : Addr} {es : Array DictEntry} {ep : Nat} (x : DictE s.heap d es ep) : s.TypeIs (.ref d) "dict" := let ⟨o, e, c, _⟩ := x; ⟨o, e, c.1⟩
section
variable {prog : Program} {w : World} {A : Around} {E : Value → Shared → Prop} {s : Shared} {d it : Addr} {es : Array DictEntry} {ep i : Nat}
theorem iter_dictE {Q : Value → Shared → Prop} (lo : (d == sysModules) = false) (hm : DictE s.heap d es ep)
    (hQ : Q (.ref s.heap.objs.size) { s with heap := s.heap.push { cls := .type "dict_keyiterator", data := .fields #[.ref d, .int 0 0, .int es.size 0, .int ep 0] } }) : wpAny (model prog w) A (pyIter (.ref d)) Q E s := by
  obtain ⟨o, ho, hc, hd⟩ := id hm
  have T := hm.ty
  refine wpAny_pyIter_slot T F.slot_dict_iter (wpAny_call_entry F.slot_dict_iter T F.entry_dict_iter ?_ (F.args_dict_iter_1 _))
  unfold Builtin.«dict.__iter__» Builtin.Dict.dictSlotNone
  refine wpAny_bind (wpAny_bind (wpAny_notOrdered_dict T ?_))
  show wpAny _ _ (pure (Value.ref d)) _ _ s
  refine wpAny_pure ?_
  show wpAny _ _ (Builtin.Dict.showsAll d >>= _) _ _ s
  unfold Builtin.Dict.showsAll
  rw [if_neg (by rw [lo]; exact Bool.false_ne_true)]
  refine wpAny_bind (wpAny_pure (wpAny_bind (wpAny_dictEntries ho hd (wpAny_bind (wpAny_dictEpoch ho hd ?_)))))
  refine wpAny_bind (wpAny_newObj_type (wpAny_pure ⟨_, rfl, "dict_keyiterator", _, ⟨_, Heap.get?_push_size _ rfl, rfl⟩, F.slot_dict_keyiterator_next.lookup, ?_⟩))
  simpa [rawInt] using hQ
theorem next_dictE {Q : Option Value → Shared → Prop} {e : DictEntry} (hit : s.heap.IsKeyIter it d i es.size ep) (hm : DictE s.heap d es ep) (hx : es[i]? = some e)
    (hQ : ∀ h', h'.IsKeyIter it d (i + 1) es.size ep → Heap.SameBut it s.heap h' → Q (some e.key) { s with heap := h' }) : wpAny (model prog w) A (pyNext (.ref it)) Q E s := by
  obtain ⟨o, ho, hc, hd⟩ := id hit
  obtain ⟨od, hod, hcd, hdd⟩ := id hm
  obtain ⟨hlt, he⟩ := Array.getElem?_eq_some_iff.mp hx
  unfold pyNext
  refine wpAny_bind (wpAny_attempt (wpAny_callSpecial?_slot (name := Str.ofString "__next__") hit.typeIs F.slot_dict_keyiterator_next (wpAny_call_entry F.slot_dict_keyiterator_next hit.typeIs F.entry_dict_keyiterator_next ?_ (F.args_dict_keyiterator_next_1 _))))
  refine wpAny_bind (wpAny_pure (wpAny_bind (wpAny_bind ?_)))
  first | refine wpAny_bind (wpAny_typeNameOfWhole_keyiter hit.typeIs (wpAny_pure ?_)) | refine wpAny_bind (wpAny_typeNameOf_keyiter hit.typeIs (wpAny_pure ?_))
  refine wpAny_bind (wpAny_fieldsOf ho hd ?_)
  simp only [show Builtin.Dict_items.ownsTuple "dict_keyiterator" = false by decide, Bool.false_eq_true, if_false]
  show wpAny _ _ (if (Value.ref d == Value.none) = true then _ else _) _ _ s
  rw [if_neg (show ¬ ((Value.ref d == Value.none) = true) from Bool.false_ne_true)]
  refine wpAny_bind (wpAny_pure (wpAny_bind (wpAny_dictEntries hod hdd ?_)))
  rw [if_neg (by simp)]
  refine wpAny_bind (wpAny_pure (wpAny_bind (wpAny_dictEpoch hod hdd ?_)))
  rw [if_neg (by simp)]
  refine wpAny_pure ?_
  simp only [show ¬ ((i : Int) < 0) from by omega, if_false, Int.toNat_natCast, Array.getElem?_eq_getElem hlt]
  refine wpAny_bind ?_
  first | refine wpAny_bind (wpAny_typeNameOfWhole_keyiter hit.typeIs (wpAny_pure ?_)) | refine wpAny_bind (wpAny_typeNameOf_keyiter hit.typeIs (wpAny_pure ?_))
  refine wpAny_bind (wpAny_isOneOf_keyiter hit.typeIs ?_)
  show wpAny _ _ (setField (.ref it) 1 (rawInt ((i : Int) + 1)) >>= _) _ _ s
  refine wpAny_bind (wpAny_setField ho hd (by simp) ?_)
  have hit' : (s.heap.update it (Obj.mapFields (·.setIfInBounds 1 (rawInt ((i : Int) + 1))))).IsKeyIter it d (i + 1) es.size ep :=
    ⟨_, Heap.get?_update_self _ ho (Obj.isFreed_of_fields (Obj.data_mapFields hd _)), (Obj.cls_mapFields ..).trans hc, by rw [Obj.data_mapFields hd]; simp [rawInt]⟩
  refine wpAny_bind (wpAny_holding (wpAny_bind (wpAny_isOneOf_keyiter (s := { s with heap := s.heap.update it (Obj.mapFields (·.setIfInBounds 1 (rawInt ((i : Int) + 1)))) }) hit'.typeIs ?_)))
  show wpAny _ _ (pure es[i].key) _ _ _
  refine wpAny_pure (wpAny_pure ⟨_, rfl, wpAny_pure ?_⟩)
  rw [he]
  exact hQ _ hit' (Heap.SameBut.update ..)
theorem end_dictE {Q : Option Value → Shared → Prop} (hh : A.handled = none) (hit : s.heap.IsKeyIter it d i es.size ep) (hm : DictE s.heap d es ep) (hx : es.size ≤ i)
    (hQ : ∀ h', Heap.ExtBut it s.heap h' → Q none { s with heap := h' }) : wpAny (model prog w) A (pyNext (.ref it)) Q E s := by
  obtain ⟨o, ho, hc, hd⟩ := id hit
  obtain ⟨od, hod, hcd, hdd⟩ := id hm
  unfold pyNext
  refine wpAny_bind (wpAny_attempt (wpAny_callSpecial?_slot (name := Str.ofString "__next__") hit.typeIs F.slot_dict_keyiterator_next (wpAny_call_entry F.slot_dict_keyiterator_next hit.typeIs F.entry_dict_keyiterator_next ?_ (F.args_dict_keyiterator_next_1 _))))
  refine wpAny_bind (wpAny_pure (wpAny_bind (wpAny_bind ?_)))
  first | refine wpAny_bind (wpAny_typeNameOfWhole_keyiter hit.typeIs (wpAny_pure ?_)) | refine wpAny_bind (wpAny_typeNameOf_keyiter hit.typeIs (wpAny_pure ?_))
  refine wpAny_bind (wpAny_fieldsOf ho hd ?_)
  simp only [show Builtin.Dict_items.ownsTuple "dict_keyiterator" = false by decide, Bool.false_eq_true, if_false]
  show wpAny _ _ (if (Value.ref d == Value.none) = true then _ else _) _ _ s
  rw [if_neg (show ¬ ((Value.ref d == Value.none) = true) from Bool.false_ne_true)]
  refine wpAny_bind (wpAny_pure (wpAny_bind (wpAny_dictEntries hod hdd ?_)))
  rw [if_neg (by simp)]
  refine wpAny_bind (wpAny_pure (wpAny_bind (wpAny_dictEpoch hod hdd ?_)))
  rw [if_neg (by simp)]
  refine wpAny_pure ?_
  simp only [show ¬ ((i : Int) < 0) from by omega, if_false, Int.toNat_natCast, Array.getElem?_eq_none hx]
  refine wpAny_bind ?_
  first | refine wpAny_bind (wpAny_typeNameOfWhole_keyiter hit.typeIs (wpAny_pure ?_)) | refine wpAny_bind (wpAny_typeNameOf_keyiter hit.typeIs (wpAny_pure ?_))
  show wpAny _ _ (setField (.ref it) 0 .none >>= _) _ _ s
  refine wpAny_bind (wpAny_setField ho hd (by simp) ?_)
  show wpAny _ _ (newExc (.type "StopIteration") [] >>= _) _ _ _
  refine wpAny_bind ?_
  simp only [newExc, newTuple]
  refine wpAny_bind (wpAny_newObj_type ?_ (by size_fits))
  refine wpAny_bind (m := firstArgMember _ _) (wpAny_of_eq (a := Value.none) (by first | rfl | (simp only [firstArgMember]; rfl)) ?_)
  refine wpAny_newObj_type ?_ (by size_fits)
  simp only [raiseNew]
  refine wpAny_bind (wpAny_handled ?_)
  rw [show A.in1.handled = none from hh]
  refine wpAny_bind (wpAny_pure (wpAny_throw ?_))
  refine wpAny_bind (wpAny_isInstance (T := "StopIteration") (b := true) ⟨_, Heap.get?_push_size _ rfl, rfl⟩ isSubtype_stop ?_)
  exact wpAny_pure (hQ _ (((Heap.SameBut.update ..).extBut.push _).push _))
end
theorem walks_dictE {prog : Program} {w : World} {A : Around} (hh : A.handled = none) (I d : Addr) (hne : d ≠ I) (es : Array DictEntry) (ep : Nat) :
    Walks prog w A I [I, d] [I] es.size (fun i v => ∃ e, es[i]? = some e ∧ v = e.key) (fun i h => h.IsKeyIter I d i es.size ep ∧ DictE h d es ep) where
  sub := fun b hb => by simp at hb; simp [hb]
  frame := fun _ _ _ st hk => ⟨st.1.at fun o e => hk I (by simp) o e, st.2.at fun o e => hk d (by simp) o e⟩
  item := fun i s Q E hi st hQ => by
    refine next_dictE (e := es[i]) st.1 st.2 (by simp [hi]) fun h' hit' hs' => ?_
    exact hQ _ h' s.toks ⟨_, by simp [hi], rfl⟩ ⟨hit', st.2.at fun o e => hs'.extBut d o hne e⟩ fun b o hb e => hs'.extBut b o (fun h => hb (by simp [h])) e
  done := fun s Q E st hQ => end_dictE hh st.1 st.2 (Nat.le_refl _) fun h' he' => hQ h' s.toks fun b o hb e => he' b o (fun h => hb (by simp [h])) e
  self := fun _ _ _ _ st hQ => wpAny_pyIter_keyiter st.1 hQ
theorem src_dictE {prog : Program} {w : World} {d : Addr} {es : Array DictEntry} {ep : Nat} (lo : (d == sysModules) = false) :
    KdlSrc prog w "dict" d d es.size (fun i v => ∃ e, es[i]? = some e ∧ v = e.key) (fun h => DictE h d es ep) where
  type := fun _ hm => hm.ty
  there := fun _ hm => ⟨hm.lt, hm.lt⟩
  keep := fun _ _ hm hk => hm.at fun o e => hk d (.inl rfl) o e
  notList := by decide
  notTuple := by decide
  hint := fun _ _ _ _ hm hq => kdl_hint_dict hm.ty hq
  iter := fun _ _ hh hm => ⟨_, _, (fun _ _ hq => iter_dictE lo hm hq), walks_dictE hh _ d (Nat.ne_of_lt hm.lt) es ep, ⟨⟨_, Heap.get?_push_size _ rfl, rfl, rfl⟩, hm.at fun _ e => Heap.get?_push_of_some _ e⟩⟩
end Sx

/-! ### sorted(..) of a list of tuples of ints, of a dict whose keys are such -/
namespace L2
open PySem PySem.Spec PyProof.Rows
/-- tuples of ints, none empty -/
abbrev TupsH (H : Hp) (rs : List Addr) (ts : List (List Int)) : Prop := Paired (fun r t => H r = some (.tup (t.map V.int)) ∧ t ≠ []) rs ts
section
variable {X : Cx} {pins : List (Addr × Obj)} {σ : St} {H : Hp} {s : Shared}
theorem Inv.tupI (I : Inv X pins σ H s) {r : Addr} {t : List Int} (e : H r = some (.tup (t.map V.int))) : Sx.TupI s.heap r t := by
  obtain ⟨_, its, rv, o, h1, h2, n, h3⟩ := (show ObjOk X.prog X.w H s.heap r (.tup (t.map V.int)) from I.hok r _ e)
  exact ⟨o, its.toArray, n, h1, h2, h3, by simpa using intsAre_of rv⟩
theorem Inv.tupsI (I : Inv X pins σ H s) : ∀ {rs : List Addr} {ts : List (List Int)}, TupsH H rs ts → Paired (fun r t => Sx.TupI s.heap r t ∧ t ≠ []) rs ts
  | _, _, .nil => .nil
  | _, _, .cons h t => .cons ⟨I.tupI h.1, h.2⟩ (I.tupsI t)
theorem vals_refs : ∀ (rs : List Addr), Vals (rs.map V.ref) (rs.map Value.ref)
  | [] => .nil
  | _ :: r => .cons rfl (vals_refs r)
theorem refs_of : ∀ {rs : List Addr} {us : List Value}, Vals (rs.map V.ref) us → us = rs.map Value.ref
  | [], _, h => by rw [List.map_nil] at h; cases h; rfl
  | r :: rs, _, h => by
    rw [List.map_cons] at h
    cases h with
    | cons h1 h2 => rw [refs_of h2, List.map_cons]; cases h1; rfl
/-- behind the copy: a new list of the tuples is sorted -/
theorem sort_new {A : Around} {E : Value → Shared → Prop} {Q : Value → Shared → Prop} {rs : List Addr} {ts : List (List Int)} {h1 : Heap} {tk : Nat} (I : Inv X pins σ H s) (k1 : ∀ b o, s.heap.get? b = some o → h1.get? b = some o)
    (hp : TupsH H rs ts) (h64 : rs.length < 64) (h : ∀ rs' ts' s' p, Sx.Sorted rs ts rs' ts' → H p = none → Inv X pins σ (upd H p (.lst (rs'.map V.ref))) s' → Q (.ref p) s') :
    wpAny (model X.prog X.w) A (newList (rs.map Value.ref)) (fun l s' => wpAny (model X.prog X.w) A (call (.builtin "list.sort") [l]) (fun _ s'' => Q l s'') E s') E { s with heap := h1, toks := tk } := by
  have I1 : Inv X pins σ H { s with heap := h1, toks := tk } := I.kept k1
  refine wpAny_newList ?_ (by rw [List.length_map, sizeLine_eq]; omega)
  have ho : (h1.push { cls := .type "list", data := .seq (rs.map Value.ref).toArray }).get? h1.objs.size = some (seqObj "list" (rs.map Value.ref).toArray 0) := Heap.get?_push_size _ rfl
  have hfr : H h1.objs.size = none := I1.hok.fresh (Nat.le_refl _)
  have hne : h1.objs.size ∉ rs := fun hm => by
    obtain ⟨i, hi, e⟩ := List.getElem_of_mem hm
    obtain ⟨t, _, q, _⟩ := Sx.pair_at (i := i) (a := h1.objs.size) hp (by rw [← e]; simp [hi])
    rw [hfr] at q; cases q
  have I2 : Inv X pins σ H { s with heap := h1.push { cls := .type "list", data := .seq (rs.map Value.ref).toArray }, toks := tk } := I1.kept fun b o e => Heap.get?_push_of_some _ e
  refine wpAny_call_entry slot_list_sort ⟨_, ho, rfl⟩ entry_list_sort (Sx.sort_tree (s := { s with heap := h1.push { cls := .type "list", data := .seq (rs.map Value.ref).toArray }, toks := tk }) ho h64 (I2.tupsI hp) hne fun rs' ts' h' c hS hk hl => ⟨_, rfl, ?_⟩) (args_list_sort _)
  refine h rs' ts' _ h1.objs.size hS hfr (I1.laid (a := h1.objs.size) (fun b o e => hk b o (Nat.ne_of_lt (Heap.lt_size e)) (Heap.get?_push_of_some _ e)) (Nat.le_refl _) ?_)
  have hlen : rs'.length = rs.length := by
    have e := hS.perm.length_eq
    have e2 := hS.len
    have e3 := Paired.length hp
    simp only [List.length_zip] at e
    omega
  exact ⟨by rw [List.length_map, sizeLine_eq]; omega, rs'.map Value.ref, c, vals_refs rs', hl⟩
end
section
variable {X : Cx}
theorem call_sortedL : CallR X (.builtin "sorted") (fun xs H Q => ∃ a rs ts, xs = [.ref a] ∧ SqL X.K H a (rs.map V.ref) ∧ rs.length < 64 ∧ TupsH H rs ts ∧
    ∀ rs' ts' p, Sx.Sorted rs ts rs' ts' → H p = none → Q (.ref p) (upd H p (.lst (rs'.map V.ref)))) := by
  intro pins s σ H xs us Q I r h
  obtain ⟨a, rs, ts, rfl, hq, h64, hp, q⟩ := h
  obtain ⟨u, rfl, ru⟩ := vals1 r
  cases ru
  obtain ⟨its, rv, pl, hz⟩ := I.list hq
  have ei := refs_of rv
  subst ei
  refine Calls.call_function_entry kind_sorted plain_sorted entry_sorted (args_sorted1 _) ?_
  unfold Builtin.«sorted»
  refine wpAny_bind (m := checkCount "sorted" 1 1 _) (wpAny_pure (wpAny_bind (collect_list pl.isList ?_ (by rw [List.length_map, sizeLine_eq]; omega))))
  have fin := sort_new (A := X.A.in1) (E := X.xe) (Q := fun v s' => EP X pins σ Q v s') (h1 := (s.heap.push (seqObj "list" #[] 0)).update s.heap.objs.size (Obj.mapSeq (· ++ (rs.map Value.ref).toArray))) (tk := s.toks) I (fun b o e =>
    ((Heap.SameBut.update _ _ _).2 b (Nat.ne_of_lt (Heap.lt_size e))).trans (Heap.get?_push_of_some _ e)) hp h64 fun rs' ts' s' p hS hf I' => ⟨.ref p, _, I', rfl, q rs' ts' p hS hf⟩
  refine wpAny_bind (wpAny_mono fin (fun l s' hl => wpAny_bind (wpAny_holding (wpAny_mono hl (fun _ s'' hq' => wpAny_pure ⟨_, rfl, hq'⟩) fun _ _ e => e))) fun _ _ e => e)
/-- sorted(d), the keys tuples of ints -/
theorem call_sortedD (hc : X.calm = true) : CallR X (.builtin "sorted") (fun xs H Q => ∃ a kvs ts, xs = [.ref a] ∧ H a = some (.dT kvs) ∧ kvs.map (·.1) = ts.map (·.map Sum.inl) ∧ (∀ t ∈ ts, t ≠ []) ∧ kvs.length < 64 ∧
    ∀ rs rs' ts' p, TupsH H rs ts → Sx.Sorted rs ts rs' ts' → H p = none → Q (.ref p) (upd H p (.lst (rs'.map V.ref)))) := by
  intro pins s σ H xs us Q I r h
  obtain ⟨a, kvs, ts, rfl, ha, hk, hne, h64, q⟩ := h
  obtain ⟨u, rfl, ru⟩ := vals1 r
  cases ru
  obtain ⟨z, lo, xs, rel, o, es, ep, e1, e2, e3, e4, _⟩ := (show ObjOk X.prog X.w H s.heap a (.dT kvs) from I.hok a _ ha)
  -- the addresses of the keys
  have hT : ∀ {l : List (List Key × V)} {m : List (List Key × Addr × Value)} {ts : List (List Int)}, KT H l m → l.map (·.1) = ts.map (·.map Sum.inl) → (∀ t ∈ ts, t ≠ []) → TupsH H (m.map (·.2.1)) ts := by
    intro l m ts q
    induction q generalizing ts with
    | nil =>
      intro e _
      cases ts with
      | nil => exact .nil
      | cons t ts => simp at e
    | @cons p q' ps qs hq t ih =>
      intro e hn
      cases ts with
      | nil => simp at e
      | cons t0 ts =>
        rw [List.map_cons, List.map_cons] at e
        injection e with ea eb
        refine .cons ⟨?_, hn t0 (.head _)⟩ (ih eb fun t ht => hn t (.tail _ ht))
        have := hq.2.1
        rw [ea, List.map_map] at this
        exact this
  have hp : TupsH H (xs.map (·.2.1)) ts := hT rel hk hne
  have hl1 : xs.length = kvs.length := (Paired.length rel).symm
  have hsz : es.size = xs.length := by rw [← Array.length_toList, e4, List.length_map]
  refine Calls.call_function_entry kind_sorted plain_sorted entry_sorted (args_sorted1 _) ?_
  unfold Builtin.«sorted»
  refine wpAny_bind (m := checkCount "sorted" 1 1 _) (wpAny_pure (wpAny_bind (PySem.W.kdu_collect (A := X.A.in1) (Sx.src_dictE lo) (I.ok.hd hc) ⟨o, e1, e2, e3⟩ (by rw [hsz, hl1]; exact z) fun h' tk acc hkp hacc => ?_)))
  have ea : acc.toList = (xs.map (·.2.1)).map Value.ref := by
    have ha' : acc.size = es.size := hacc.1
    apply List.ext_getElem?
    intro j
    rw [Array.getElem?_toList, List.map_map, List.getElem?_map]
    cases ej : acc[j]? with
    | none =>
      have : acc.size ≤ j := by simpa using ej
      rw [List.getElem?_eq_none (by omega)]; rfl
    | some v =>
      obtain ⟨en, h1, rfl⟩ := hacc.2 j v ej
      have h2 : es.toList[j]? = some en := by rw [Array.getElem?_toList]; exact h1
      rw [e4, List.getElem?_map] at h2
      cases ex : xs[j]? with
      | none => rw [ex] at h2; cases h2
      | some x => rw [ex] at h2; cases h2; rfl
  have fin := sort_new (A := X.A.in1) (E := X.xe) (Q := fun v s' => EP X pins σ Q v s') (h1 := h') (tk := tk) I hkp hp (by rw [List.length_map]; omega) fun rs' ts' s' p hS hf I' => ⟨.ref p, _, I', rfl, q _ rs' ts' p hp hS hf⟩
  rw [ea]
  refine wpAny_bind (wpAny_mono fin (fun l s' hl => wpAny_bind (wpAny_holding (wpAny_mono hl (fun _ s'' hq' => wpAny_pure ⟨_, rfl, hq'⟩) fun _ _ e => e))) fun _ _ e => e)
end
end L2

/-! ### the mathematics: a list of ties looked through, sorted lists -/
namespace Mt
def lo (a b : Int) : Int := if b < a then b else a
def hi (a b : Int) : Int := if b > a then b else a
abbrev Tri := Int × Int × Int
/-- an end is no point, or both are alike -/
def bad (m a b : Int) : Prop := a < 0 ∨ m ≤ a ∨ b < 0 ∨ m ≤ b ∨ a = b
instance (m a b : Int) : Decidable (bad m a b) := by unfold bad; infer_instance
def tri (t : Tri) : List Int := [t.1, t.2.1, t.2.2]
/-- the tie's ends, the lesser first, and its weight -/
def key (t : Tri) : List Int := [lo t.1 t.2.1, hi t.1 t.2.1]
def row (t : Tri) : List Int := key t ++ [t.2.2]
inductive Res | bad | twice | good
  deriving DecidableEq
/-- what becomes of a list of ties: seen are the keys ahead -/
def scan (m : Int) : List Tri → List (List Int) → Res
  | [], _ => .good
  | t :: r, seen => if bad m t.1 t.2.1 then .bad else if seen.any (fun k => decide (k = key t)) = true then .twice else scan m r (seen ++ [key t])
theorem scan_cons (m : Int) (t : Tri) (r : List Tri) (seen : List (List Int)) : scan m (t :: r) seen = if bad m t.1 t.2.1 then .bad else if seen.any (fun k => decide (k = key t)) = true then .twice else scan m r (seen ++ [key t]) := rfl
theorem scan_good {m : Int} : ∀ {T : List Tri} {seen : List (List Int)}, scan m T seen = .good → seen.Nodup → (seen ++ T.map key).Nodup ∧ ∀ t ∈ T, ¬ bad m t.1 t.2.1
  | [], seen, _, hn => ⟨by simpa using hn, fun t ht => nomatch ht⟩
  | t :: r, seen, h, hn => by
    unfold scan at h
    by_cases hb : bad m t.1 t.2.1
    · rw [if_pos hb] at h; cases h
    · rw [if_neg hb] at h
      by_cases hk : seen.any (fun k => decide (k = key t)) = true
      · rw [if_pos hk] at h; cases h
      · rw [if_neg hk] at h
        have hk' : key t ∉ seen := fun hm => hk (List.any_eq_true.mpr ⟨_, hm, decide_eq_true rfl⟩)
        have hn' : (seen ++ [key t]).Nodup := by
          rw [List.nodup_append]
          refine ⟨hn, by simp, fun a ha b hb' => ?_⟩
          rw [List.mem_singleton] at hb'
          subst hb'
          exact fun e => hk' (e ▸ ha)
        obtain ⟨h1, h2⟩ := scan_good h hn'
        refine ⟨by simpa using h1, fun u hu => ?_⟩
        rcases List.mem_cons.mp hu with rfl | hu
        · exact hb
        · exact h2 u hu

theorem perm_sorted_eq {α : Type} {R : α → α → Prop} (anti : ∀ a b, R a b → R b a → a = b) : ∀ {l m : List α}, l.Perm m → l.Pairwise R → m.Pairwise R → l = m
  | [], m, h, _, _ => by rw [List.nil_perm.mp h]
  | a :: l, [], h, _, _ => by have := h.length_eq; simp at this
  | a :: l, b :: m, h, hl, hm => by
    rw [List.pairwise_cons] at hl hm
    have e : a = b := by
      have ha : a ∈ b :: m := h.mem_iff.mp (.head _)
      have hb : b ∈ a :: l := h.mem_iff.mpr (.head _)
      rcases List.mem_cons.mp ha with e | ha
      · exact e
      · rcases List.mem_cons.mp hb with e | hb
        · exact e.symm
        · exact anti a b (hl.1 b hb) (hm.1 a ha)
    subst e
    rw [perm_sorted_eq anti (List.Perm.cons_inv h) hl.2 hm.2]
/-- sorted lists of the same tuples are alike -/
theorem sorted_eq {l m : List (List Int)} (h : l.Perm m) (hl : l.Pairwise fun a b => HT.lexLt b a = false) (hm : m.Pairwise fun a b => HT.lexLt b a = false) : l = m :=
  perm_sorted_eq (fun a b h1 h2 => (Sx.lex_tot b a h1 h2).symm) h hl hm
theorem lex_app : ∀ {a b : List Int} (x y : Int), a.length = b.length → HT.lexLt a b = true → HT.lexLt (b ++ [y]) (a ++ [x]) = false
  | [], [], x, y, _, h => by rw [HT.lexLt_nil_nil] at h; cases h
  | [], _ :: _, _, _, e, _ => by simp at e
  | _ :: _, [], _, _, e, _ => by simp at e
  | c :: a, d :: b, x, y, e, h => by
    rw [HT.lexLt_cons] at h
    show HT.lexLt (d :: (b ++ [y])) (c :: (a ++ [x])) = false
    rw [HT.lexLt_cons]
    by_cases q : c = d
    · subst q
      rw [if_pos rfl] at h ⊢
      exact lex_app x y (by simpa using e) h
    · rw [if_neg q] at h
      have : c < d := of_decide_eq_true h
      rw [if_neg (Ne.symm q)]
      exact decide_eq_false (by omega)
/-- keys in order, each with its weight: the rows in order -/
theorem rows_sorted {ks : List (List Int)} (wt : List Int → Int) (hl : ∀ k ∈ ks, k.length = 2) (hs : ks.Pairwise fun a b => HT.lexLt b a = false) (hn : ks.Nodup) : (ks.map fun k => k ++ [wt k]).Pairwise fun a b => HT.lexLt b a = false := by
  rw [List.pairwise_map]
  have h2 : ks.Pairwise fun a b => HT.lexLt b a = false ∧ a ≠ b := by
    rw [List.pairwise_and_iff]
    exact ⟨hs, hn⟩
  refine h2.imp_of_mem fun {a b} ha hb h => ?_
  refine lex_app _ _ (by rw [hl a ha, hl b hb]) ?_
  cases q : HT.lexLt a b with
  | true => rfl
  | false => exact absurd (Sx.lex_tot a b q h.1) h.2
theorem key_len (t : Tri) : (key t).length = 2 := rfl
/-- where no key comes twice, each has one weight -/
theorem rows_of {T : List Tri} (hn : (T.map key).Nodup) {wt : List Int → Int} (hw : ∀ t ∈ T, wt (key t) = t.2.2) : (T.map key).map (fun k => k ++ [wt k]) = T.map row := by
  rw [List.map_map]
  refine List.map_congr_left fun t ht => ?_
  show key t ++ [wt (key t)] = key t ++ [t.2.2]
  rw [hw t ht]
theorem key_range {m : Int} {t : Tri} (h : ¬ bad m t.1 t.2.1) : 0 ≤ lo t.1 t.2.1 ∧ lo t.1 t.2.1 < hi t.1 t.2.1 ∧ hi t.1 t.2.1 < m := by
  unfold bad at h
  unfold lo hi
  split <;> split <;> omega
end Mt

/-! ### list comprehensions of one clause -/
namespace L2
open PySem PySem.Spec PyProof.Rows

/-- the block of a comprehension: its own names, then the captured ones -/
def Xc (X : Cx) (pins : List (Addr × Obj)) (scope : Scope) (cl : List (Str × Addr)) (C : Addr) (N : List Str) (s : Shared) (H : Hp) (fp : List Addr) : Cx where
  prog := X.prog
  w := X.w
  K := X.K
  mg := X.mg
  base := X.base
  A := X.A
  N := N
  s₀ := s
  H₀ := H
  env := compEnvC scope cl C X.env
  outer := X.stack
  stack := X.stack
  ex := fp
  fn := fun x => (cl.lookup x).isNone
  calm := X.calm
  pn := X.pn ++ pins
  xe := fun _ _ => False

/-- the values at the block's entry: own names none, then those of the slots js -/
def σC (own : Nat) (js : List Nat) (σ : St) : St := List.replicate own none ++ js.map fun j => (σ[j]?).getD none

/-- what the reader must know of the text: the closure's cells, the captured names -/
structure Caps (X : Cx) (scope : Scope) (cl : List (Str × Addr)) (own caps : List Str) (js : List Nat) : Prop where
  clos : closureFor scope X.env = pure cl
  sub : ∀ x c, cl.lookup x = some c → X.env.cells.lookup x = some c
  kind : scope.kind = .function
  nocell : ∀ y ∈ scope.names, y.2 ≠ .cell
  names : ∀ y ∈ scope.names, y.2 = .local → scope.names.lookup y.1 = some .local
  has : ∀ x, ((relabel scope X.env).names.lookup x = some .cell ∨ (relabel scope X.env).names.lookup x = some .free) → ∃ c, cl.lookup x = some c
  capl : caps.length = js.length
  cap : ∀ (i : Nat) (x : Str), caps[i]? = some x → ∃ j : Nat, js[i]? = some j ∧ X.N[j]? = some x ∧ X.env.scope.names.lookup x = some .cell ∧ (cl.lookup x).isSome = true ∧ (relabel scope X.env).names.lookup x = some .cell

section
variable {X : Cx} {pins : List (Addr × Obj)} {σ : St} {H : Hp} {s : Shared} {scope : Scope} {cl : List (Str × Addr)} {own caps : List Str} {js : List Nat}

theorem Inv.offC {C : Addr} {h' : Heap} {t' : Nat} (I : Inv X pins σ H s) (f : FpOk X pins H C) (hs : Heap.SameBut C s.heap h') : Inv X pins σ H { s with heap := h', toks := t' } := by
  obtain ⟨f0, f1, f2, f3, f4, f5⟩ := f
  exact I.turned (fun b o hb e => (hs.2 b hb).trans e) f0 f1 f3 f4 f5

/-- the block's context is sound -/
theorem xc_ok {fp : List Addr} {C : Addr} {H1 : Hp} (I : Inv X pins σ H1 s) (K : Caps X scope cl own caps js) (hC : s.heap.objs.size ≤ C) (hf : ∀ b ∈ fp, FpOk X pins H1 b) (ho : ∀ b ∈ fp, ∃ o, s.heap.get? b = some o) :
    (Xc X pins scope cl C (own ++ caps) s H1 fp).Ok := by
  refine ⟨I.ok.mod, K.kind, I.ok.glob, I.ok.blt, hC, fun x y c h1 h2 => I.ok.inj x y c (K.sub x c h1) (K.sub y c h2), fun x hx => K.has x hx, fun x c h1 h2 => ?_, I.ok.hd, I.ok.frames, .inl rfl, fun b hb => ?_, I.bs, Nat.le_trans I.ok.bsz I.sz, fun b o e hb => ?_, fun b hb hm => ?_, I.stack, I.stkFree⟩
  · have h1 : (cl.lookup x).isNone = true := h1
    have h2 : cl.lookup x = some c := h2
    rw [h2] at h1; cases h1
  · obtain ⟨o, e⟩ := ho b hb
    refine ⟨fun z => ?_, fun x c h z => (hf b hb).2.2.2.2.1 x c (K.sub x c h) z⟩
    have : b < C := Nat.lt_of_lt_of_le (Heap.lt_size e) hC
    rw [z] at this
    exact absurd this (Nat.lt_irrefl _)
  · rcases (hf b hb).2.2.2.1 with z | z
    · exact I.ok.noex b o e z
    · exact absurd (Nat.lt_of_lt_of_le (Heap.lt_size e) (Nat.le_trans I.ok.bsz z)) (Nat.lt_irrefl _)
  · rcases List.mem_cons.mp (I.stkSub b hm) with z | z
    · exact (hf b hb).2.1 z
    · exact (hf b hb).2.2.1 z
/-- the block's state at its entry -/
theorem xc_inv {fp : List Addr} {D C : Addr} {H1 : Hp} {s4 : Shared} {mC : Str → Option Value} (I : Inv X pins σ H1 s) (K : Caps X scope cl own caps js) (hC : s.heap.objs.size ≤ C) (hD : s.heap.objs.size ≤ D) (hDC : D ≠ C)
    (hf : ∀ b ∈ fp, FpOk X pins H1 b) (ho : ∀ b ∈ fp, ∃ o, s.heap.get? b = some o) (h4 : ∃ h' tk, s4 = { s with heap := h', toks := tk }) (k4 : ∀ b o, s.heap.get? b = some o → s4.heap.get? b = some o) (hn : s4.heap.Ns C mC)
    (hl : s4.heap.get? D = some { cls := .type "list", data := .seq #[] 0 }) : Inv (Xc X pins scope cl C (own ++ caps) s H1 fp) [] (σC own.length js σ) (upd H1 D (.lst [])) s4 := by
  obtain ⟨h', tk, rfl⟩ := h4
  have hfr : H1 D = none := I.hok.fresh hD
  have hlen : (σC own.length js σ).length = (own ++ caps).length := by
    unfold σC
    rw [List.length_append, List.length_append, List.length_replicate, List.length_map, K.capl]
  have celK : ∀ c v, s.heap.IsCell c v → h'.IsCell c v := fun c v ⟨o, e, d⟩ => ⟨o, k4 c o e, d⟩
  have cold : ∀ x c, cl.lookup x = some c → c < s.heap.objs.size := fun x c e => by
    obtain ⟨v, z⟩ := I.cell x c (K.sub x c e)
    exact z.lt
  refine ⟨xc_ok I K hC hf ho, rfl, I.bare, Un.laid k4 hD hfr, ⟨mC, hn, fun i x v e1 e2 e3 => ?_⟩, fun x c e => ?_, ?_, fun x c e => ?_, fun p hp => ?_, I.hok.laid k4 hD ?_, hlen⟩
  · have hi : own.length ≤ i := by
      by_cases hi : i < own.length
      · exfalso
        unfold σC at e2
        rw [List.getElem?_append_left (by rw [List.length_replicate]; exact hi), List.getElem?_replicate, if_pos hi] at e2
        cases e2
      · omega
    obtain ⟨k, rfl⟩ : ∃ k, i = own.length + k := ⟨i - own.length, by omega⟩
    have e1 : (own ++ caps)[own.length + k]? = some x := e1
    rw [List.getElem?_append_right (by omega), Nat.add_sub_cancel_left] at e1
    obtain ⟨j, j1, j2, j3, j4, j5⟩ := K.cap k x e1
    unfold σC at e2
    rw [List.getElem?_append_right (by rw [List.length_replicate]; omega), List.length_replicate, Nat.add_sub_cancel_left, List.getElem?_map, j1] at e2
    have e2 : (σ[j]?).getD none = some v := Option.some.inj e2
    have e4 : σ[j]? = some (some v) := by
      cases q : σ[j]? with
      | none => rw [q] at e2; cases e2
      | some y => rw [q] at e2; exact congrArg some e2
    obtain ⟨m, _, hl'⟩ := I.loc
    obtain ⟨u, ru, lk⟩ := hl' j x v j2 e4 (.inr (.inl j3))
    refine ⟨u, ru, ?_⟩
    rcases lk with ⟨hk, _⟩ | ⟨_, c, hc, hcell⟩
    · have hk : X.env.scope.names.lookup x = some .local := hk
      rw [j3] at hk; cases hk
    · obtain ⟨c', hc'⟩ := Option.isSome_iff_exists.mp j4
      have := K.sub x c' hc'
      rw [hc] at this; cases this
      exact .inr ⟨.inl j5, c, hc', celK _ _ hcell⟩
  · obtain ⟨v, z⟩ := I.cell x c (K.sub x c e)
    exact ⟨v, celK _ _ z⟩
  · show upd H1 D (.lst []) C = none
    rw [upd_ne (Ne.symm hDC)]
    exact I.hok.fresh hC
  · rw [upd_ne (Nat.ne_of_lt (Nat.lt_of_lt_of_le (cold x c e) hD))]
    exact I.freeC x c (K.sub x c e)
  · have hp : p ∈ X.pn ++ pins := by
      have : p ∈ (X.pn ++ pins) ++ [] := hp
      simpa using this
    obtain ⟨e, n, ne, nf, d⟩ := I.pin p hp
    have hlt := Heap.lt_size e
    refine ⟨k4 _ _ e, by rw [upd_ne (Nat.ne_of_lt (Nat.lt_of_lt_of_le hlt hD))]; exact n, Nat.ne_of_lt (Nat.lt_of_lt_of_le hlt hC), fun hm => ?_, d⟩
    rcases List.mem_cons.mp (I.stkSub _ hm) with z | z
    · exact ne z
    · exact nf z
  · exact ⟨Nat.zero_le _, [], 0, .nil, hl⟩
/-- behind the block -/
theorem xc_back {fp : List Addr} {C : Addr} {N : List Str} {H1 H' : Hp} {σ' : St} {pl : List (Addr × Obj)} {s' : Shared} (I : Inv X pins σ H1 s) (hf : ∀ b ∈ fp, FpOk X pins H1 b) (J : Inv (Xc X pins scope cl C N s H1 fp) pl σ' H' s') : Inv X pins σ H' s' :=
  I.call' J.os J.base J.hok J.bare fun b hb => ⟨(hf b hb).2.2.2.1, (hf b hb).2.1, (hf b hb).2.2.2.2.1, (hf b hb).2.2.2.2.2⟩
end

/-- a turn: the target, the tests, the element; W is the invariant: turn, measure, items so far, names, heap -/
def tTurns (J : It) (g : TG) (tt : TT) (te : TE) (σ0 : St) (D : Addr) (Qd : Hp → Prop) (H1 : Hp) : Prop :=
  ∃ W : Nat → Nat → List V → St → Hp → Prop, (∃ m, W 0 m [] σ0 (upd H1 D (.lst []))) ∧ ∀ i m ys σ1 H2, W i m ys σ1 H2 → H2 D = some (.lst ys) ∧
    ((J.stop i H2 ∧ Qd H2) ∨ (J.go i H2 ∧ ys.length < sizeLine ∧ ∀ x H3, J.yld i H2 x H3 → g x σ1 H3 fun σ2 H4 => tt σ2 H4 fun c H5 =>
      if c = true then te σ2 H5 fun y H6 => H6 D = some (.lst ys) ∧ ∃ m', m' < m ∧ W (i + 1) m' (ys ++ [y]) σ2 (upd H6 D (.lst (ys ++ [y]))) else ∃ m', m' < m ∧ W (i + 1) m' ys σ2 H5))
/-- the tests of a clause -/
def PTs (X : Cx) (ifs : List Expr) (t : TT) : Prop :=
  ∀ (pins : List (Addr × Obj)) (s : Shared) (σ : St) (H : Hp) (Q : Bool → Hp → Prop), Inv X pins σ H s → t σ H Q →
    wpAny (model X.prog X.w) X.A (forIn ifs true fun c r => if r = true then do let ok ← isTrue c X.env (eval c X.env); pure (ForInStep.yield ok) else pure (ForInStep.yield r)) (TP X pins σ Q) X.xe s
def tYes : TT := fun _ H Q => Q true H
theorem pts_nil {X : Cx} : PTs X [] tYes := fun _ _ _ H _ I h => wpAny_tests_nil ⟨H, I, h⟩
theorem pts_one {X : Cx} {c : Expr} {t : TT} (h : PT X c t) : PTs X [c] t := fun pins s σ H Q I hw => wpAny_tests_one (h pins s σ H Q I hw)

section
variable {X : Cx} {pins : List (Addr × Obj)} {σ : St} {H : Hp} {s : Shared} {scope : Scope} {cl : List (Str × Addr)} {own caps : List Str} {js : List Nat}
variable {tg iter elt : Expr} {ifs : List Expr} {pos : Pos} {g : TG} {tt : TT} {te : TE}
/-- the turns of a comprehension -/
theorem comp_loop {J : It} {fp : List Addr} {it D C : Addr} {tn : Nat → Heap → Prop} {H1 : Hp} {σ0 : St} {Qd : Hp → Prop} {RR : Result → Shared → Prop} {s4 : Shared}
    (hc : X.calm = true) (T : Turn X.prog X.w X.K tg J fp it tn)
    (hg : PG (Xc X pins scope cl C (own ++ caps) s H1 fp) tg g) (ht : PTs (Xc X pins scope cl C (own ++ caps) s H1 fp) ifs tt) (he : PE (Xc X pins scope cl C (own ++ caps) s H1 fp) elt te)
    (hf : ∀ b ∈ fp, FpOk X pins H1 b)
    (J0 : Inv (Xc X pins scope cl C (own ++ caps) s H1 fp) [] σ0 (upd H1 D (.lst [])) s4) (st0 : tn 0 s4.heap) (hfD : ∀ b ∈ fp, b ≠ D)
    (turns : tTurns J g tt te σ0 D Qd H1)
    (fin : ∀ σ' H' s', Inv (Xc X pins scope cl C (own ++ caps) s H1 fp) [] σ' H' s' → Qd H' → RR (.ok .next) s') :
    codeAny (model X.prog X.w) X.A (.compLoop (.ListComp elt [⟨tg, iter, ifs, 0⟩] scope pos) 0 (.ref it) (.ref D) (compEnvC scope cl C X.env)) RR s4 := by
  obtain ⟨W, ⟨m0, w0⟩, turn⟩ := turns
  have stat : ∀ {H' : Hp}, (∀ b ∈ fp, H' b = none) → ∀ b ∈ fp, FpOk (Xc X pins scope cl C (own ++ caps) s H1 fp) [] H' b := fun {H'} hn b hb => by
    refine ⟨hn b hb, (J0.ok.exf b hb).1, J0.ok.exfs b hb, .inl hb, fun x c e => (J0.ok.exf b hb).2 x c e, fun p hp => ?_⟩
    have hp : p ∈ X.pn ++ pins := by
      have : p ∈ (X.pn ++ pins) ++ [] := hp
      simpa using this
    exact (hf b hb).2.2.2.2.2 p hp
  refine codeAny_loop rfl (fun n s' => ∃ i ys σ' H', Inv (Xc X pins scope cl C (own ++ caps) s H1 fp) [] σ' H' s' ∧ tn i s'.heap ∧ (∀ b ∈ fp, H' b = none) ∧ W i n ys σ' H') (fun n s' hI => ?_) m0
    ⟨0, [], _, _, J0, st0, fun b hb => by rw [upd_ne (hfD b hb)]; exact (hf b hb).1, w0⟩
  obtain ⟨i, ys, σ2, H2, I2, st, fr, w2⟩ := hI
  show wpAny _ X.A ((compTurn (.ListComp elt [⟨tg, iter, ifs, 0⟩] scope pos) 0 (.ref it) (.ref D) (compEnvC scope cl C X.env)).onRaise (fun x => do noteFrame x (compEnvC scope cl C X.env); theTreesLotGoes x)) _ _ s'
  refine wpAny_noted (wpAny_noRaise ?_)
  rw [compTurn_list]
  obtain ⟨hD, alt⟩ := turn i n ys σ2 H2 w2
  rcases alt with ⟨stop, qd⟩ | ⟨go, hz, step⟩
  · refine wpAny_bind (wpAny_standAt (wpAny_bind (thn (T.done (Xc X pins scope cl C (own ++ caps) s H1 fp) rfl rfl rfl hc i [] s' σ2 H2 (fun _ _ => False) I2 (stat fr) st stop) fun r s5 ⟨hr, I5⟩ => ?_)))
    subst hr
    exact wpAny_pure (fin _ _ _ I5 qd)
  · refine wpAny_bind (wpAny_standAt (wpAny_bind (thn (T.item (Xc X pins scope cl C (own ++ caps) s H1 fp) rfl rfl rfl hc i [] s' σ2 H2 (fun _ _ => False) I2 (stat fr) st go) fun r s5 ⟨u, hr, h5⟩ => ?_)))
    subst hr
    refine wpAny_bind (thn h5 fun _ s6 ⟨x, H6, I6, r6, y6, st6, fr6⟩ => ?_)
    have I6' := I6.pinned (stat fr6) (T.obj _ _ st6)
    refine wpAny_bind (thn (hg _ s6 σ2 H6 x u _ I6' r6 (step x H6 y6)) fun _ s7 ⟨σ7, H7, I7, q7⟩ => ?_)
    refine wpAny_bind (thn (ht _ s7 σ7 H7 _ I7 q7) fun ok s8 ⟨H8, I8, q8⟩ => ?_)
    have again : ∀ {H9 : Hp} {ys' : List V} {m : Nat} {s9 : Shared}, Inv (Xc X pins scope cl C (own ++ caps) s H1 fp) ([] ++ pinsAt fp s6.heap) σ7 H9 s9 → m < n → W (i + 1) m ys' σ7 H9 →
        ∃ m, m < n ∧ ∃ i ys σ' H', Inv (Xc X pins scope cl C (own ++ caps) s H1 fp) [] σ' H' s9 ∧ tn i s9.heap ∧ (∀ b ∈ fp, H' b = none) ∧ W i m ys σ' H' := fun {H9 ys' m s9} I9 hm w9 => by
      refine ⟨m, hm, i + 1, ys', σ7, H9, I9.unpinned, T.keep _ _ _ st6 fun b hb o e => (I9.pin (b, o) (List.mem_append_right _ (List.mem_append_right _ (mem_pinsAt hb e)))).1, fun b hb => ?_, w9⟩
      obtain ⟨o, e, _⟩ := T.obj _ _ st6 b hb
      exact (I9.pin (b, o) (List.mem_append_right _ (List.mem_append_right _ (mem_pinsAt hb e)))).2.1
    cases ok with
    | false =>
      rw [if_neg Bool.false_ne_true] at q8
      obtain ⟨m, hm, w8⟩ := q8
      exact wpAny_pure ⟨rfl, again I8 hm w8⟩
    | true =>
      rw [if_pos rfl] at q8
      refine wpAny_bind (wpAny_bind (thn (he _ s8 σ7 H8 _ I8 q8) fun y s9 ⟨yv, H9, I9, r9, hD9, m, hm, w9⟩ => ?_))
      refine wpAny_bind (thn (mt_append _ s9 σ7 H9 (.ref D) [yv] (.ref D) [y] (fun _ H10 => H10 = upd H9 D (.lst (ys ++ [yv]))) I9 rfl (.cons r9 .nil) ⟨D, ys, yv, rfl, rfl, hD9, hz, rfl⟩) fun _ s10 ⟨_, H10, I10, _, e10⟩ => ?_)
      subst e10
      exact wpAny_pure (wpAny_pure ⟨rfl, again I10 hm w9⟩)
/-- the block: the new list, the block's names, the turns -/
theorem comp_block {J : It} {fp : List Addr} {it : Addr} {tn : Nat → Heap → Prop} {H1 : Hp} {Qd : Addr → Hp → Prop} {RR : Value → Addr → Result → Shared → Prop} {E : Value → Shared → Prop}
    (hc : X.calm = true) (I : Inv X pins σ H1 s) (K : Caps X scope cl own caps js) (T : Turn X.prog X.w X.K tg J fp it tn) (st0 : tn 0 s.heap) (hf : ∀ b ∈ fp, FpOk X pins H1 b)
    (hg : ∀ C, PG (Xc X pins scope cl C (own ++ caps) s H1 fp) tg g) (ht : ∀ C, PTs (Xc X pins scope cl C (own ++ caps) s H1 fp) ifs tt) (he : ∀ C, PE (Xc X pins scope cl C (own ++ caps) s H1 fp) elt te)
    (turns : ∀ D, H1 D = none → tTurns J g tt te (σC own.length js σ) D (Qd D) H1)
    (fin : ∀ D C H' s', Inv X pins σ H' s' → FpOk X pins H' C → (∃ m, s'.heap.Ns C m) → Qd D H' → RR (.ref D) C (.ok .next) s') :
    wpAny (model X.prog X.w) X.A (newList []) (fun acc s₃ => wpAny (model X.prog X.w) X.A (newFunctionEnv scope X.env.globals cl [] X.env.qual none .none (some X.env)) (fun cenv s₄ =>
      codeAny (model X.prog X.w) X.A (.compStart (.ListComp elt [⟨tg, iter, ifs, 0⟩] scope pos) 0 (.ref it) acc { cenv with scope := relabel scope X.env }) (RR acc cenv.locals) s₄) E s₃) E s := by
  have hold : ∀ b ∈ fp, ∃ o, s.heap.get? b = some o := fun b hb => let ⟨o, e, _⟩ := T.obj 0 _ st0 b hb; ⟨o, e⟩
  refine wpAny_newObj_type (wpAny_newFunctionEnv K.nocell (by intro y hy; simp at hy) (fun h₁ hns₁ hsb₁ => ?_) K.kind)
  dsimp only at hns₁ hsb₁ ⊢
  generalize hH2 : s.heap.push { cls := .type "list", dict := none, data := .seq ([] : List Value).toArray } = H2 at hns₁ hsb₁ ⊢
  have hsz : H2.objs.size = s.heap.objs.size + 1 := by rw [← hH2, Heap.size_push]
  have k4 : ∀ b o, s.heap.get? b = some o → h₁.get? b = some o := fun b o e => by
    have hlt := Heap.lt_size e
    refine (hsb₁.2 b (Nat.ne_of_lt (hsz ▸ Nat.lt_succ_of_lt hlt))).trans (Heap.get?_push_of_some _ ?_)
    rw [← hH2]
    exact Heap.get?_push_of_some _ e
  have hlist : h₁.get? s.heap.objs.size = some { cls := .type "list", data := .seq #[] 0 } := by
    refine (hsb₁.2 _ (Nat.ne_of_lt (hsz ▸ Nat.lt_succ_self _))).trans (Heap.get?_push_of_some _ ?_)
    rw [← hH2]
    exact Heap.get?_push_size _ rfl
  have hfr : H1 s.heap.objs.size = none := I.hok.fresh (Nat.le_refl _)
  have J0 := xc_inv (C := H2.objs.size) (D := s.heap.objs.size) (s4 := { s with heap := h₁, toks := s.toks + ([] : List (Str × Value)).length }) I K (hsz ▸ Nat.le_succ _) (Nat.le_refl _) (Nat.ne_of_lt (hsz ▸ Nat.lt_succ_self _)) hf hold ⟨_, _, rfl⟩ k4 hns₁ hlist
  have hfD : ∀ b ∈ fp, b ≠ s.heap.objs.size := fun b hb z => by
    obtain ⟨o, e⟩ := hold b hb
    have hlt := Heap.lt_size e
    rw [z] at hlt
    exact absurd hlt (Nat.lt_irrefl _)
  have st1 : tn 0 h₁ := T.keep 0 _ _ st0 fun b hb o e => k4 b o e
  have loop : ∀ s₃ : Shared, s₃ = { s with heap := h₁, toks := s.toks + ([] : List (Str × Value)).length } →
      codeAny (model X.prog X.w) X.A (.compLoop (.ListComp elt [⟨tg, iter, ifs, 0⟩] scope pos) 0 (.ref it) (.ref s.heap.objs.size) (compEnvC scope cl H2.objs.size X.env)) (RR (.ref s.heap.objs.size) H2.objs.size) s₃ := by
    rintro s₃ rfl
    refine comp_loop hc T (hg _) (ht _) (he _) hf J0 st1 hfD (turns _ hfr) fun σ' H' s' J' qd => ?_
    have hC : H' H2.objs.size = none := J'.free
    obtain ⟨m, hn, _⟩ := J'.loc
    exact fin _ _ _ _ (xc_back I hf J') (I.fpOk (by omega) hC) ⟨m, hn⟩ qd
  exact codeAny_compStart_list (loop _ rfl) (T.self _ 0 _ _ _ st1 (loop _ rfl))

/-- [elt for tg in iter if ..] -/
def tComp (wi : TI) (g : TG) (tt : TT) (te : TE) (own : Nat) (js : List Nat) : TE := fun σ H Q => wi σ H fun J H1 => ∀ D, H1 D = none → tTurns J g tt te (σC own js σ) D (fun H' => Q (.ref D) H') H1
theorem pe_comp {wi : TI} (hc : X.calm = true) (K : Caps X scope cl own caps js) (hi : PI X tg iter wi)
    (hg : ∀ pins C s H1 fp, PG (Xc X pins scope cl C (own ++ caps) s H1 fp) tg g) (ht : ∀ pins C s H1 fp, PTs (Xc X pins scope cl C (own ++ caps) s H1 fp) ifs tt) (he : ∀ pins C s H1 fp, PE (Xc X pins scope cl C (own ++ caps) s H1 fp) elt te)
    (hs : ∀ x, foldedSetIterable iter X.env x = pure x := by intro _; rfl) : PE X (.ListComp elt [⟨tg, iter, ifs, 0⟩] scope pos) (tComp wi g tt te own.length js) := by
  intro pins s σ H Q I h
  rw [eval_ListComp]
  refine wpAny_comprehension_free (use := none) rfl hs K.clos K.kind K.names (thn (hi pins s σ H _ I h) fun v s1 h1 => thn h1 fun itv s2 h2 => ?_)
  obtain ⟨it, fp, tn, J, H1, e, I2, T, st, f, q⟩ := h2
  subst e
  refine comp_block (Qd := fun D H' => Q (.ref D) H') (RR := fun acc C => compPost (model X.prog X.w) X.A X.xe none (EP X pins σ Q) acc C) hc I2 K T st f (fun C => hg _ C _ _ _) (fun C => ht _ C _ _ _) (fun C => he _ C _ _ _) q ?_
  intro D C H' s' I' fC ⟨m, hn⟩ qd
  exact ⟨m, hn, fun h' hs' => ⟨.ref D, H', I'.offC (t' := s'.toks) fC hs', rfl, qd⟩⟩
/-- name = [elt for tg in iter if ..] on one line: stored ahead of the block's end -/
def tCompSet (i : Nat) (wi : TI) (g : TG) (tt : TT) (te : TE) (own : Nat) (js : List Nat) : TS := fun D σ H => wi σ H fun J H1 => ∀ d, H1 d = none → tTurns J g tt te (σC own js σ) d (fun H' => D.nx (σ.set i (some (.ref d))) H') H1
theorem ps_comp {wi : TI} {i : Nat} {y : Str} {py spos : Pos} (hc : X.calm = true) (K : Caps X scope cl own caps js) (hi : PI X tg iter wi)
    (hg : ∀ pins C s H1 fp, PG (Xc X pins scope cl C (own ++ caps) s H1 fp) tg g) (ht : ∀ pins C s H1 fp, PTs (Xc X pins scope cl C (own ++ caps) s H1 fp) ifs tt) (he : ∀ pins C s H1 fp, PE (Xc X pins scope cl C (own ++ caps) s H1 fp) elt te)
    (hN : X.N.Nodup) (hy : X.N[i]? = some y) (hyl : X.env.scope.names.lookup y = some .local)
    (hsw : swapsWith (.ListComp elt [⟨tg, iter, ifs, 0⟩] scope pos) (some (.Name y py)) spos.line X.env = pure true)
    (hs : ∀ x, foldedSetIterable iter X.env x = pure x := by intro _; rfl) : PS X (.Assign [.Name y py] (.ListComp elt [⟨tg, iter, ifs, 0⟩] scope pos) spos) (tCompSet i wi g tt te own.length js) := by
  intro pins s σ H D I h
  rw [exec_Assign_Name_used _ _ _ _ hsw]
  refine wpAny_bind (wpAny_standAt (wpAny_bind ?_))
  show wpAny _ X.A (do let _ ← comprehension (.ListComp elt [⟨tg, iter, ifs, 0⟩] scope pos) scope X.env _ (newList []) false (eval iter X.env) (some (assign (.Name y py) X.env))) _ _ s
  refine wpAny_bind (thn (wpAny_comprehension_free (use := some (assign (.Name y py) X.env)) (Q := fun _ s' => SP X pins D .next s') rfl hs K.clos K.kind K.names (thn (hi pins s σ H _ I h) fun v s1 h1 => thn h1 fun itv s2 h2 => ?_)) fun _ s' hq => wpAny_pure (wpAny_pure hq))
  obtain ⟨it, fp, tn, J, H1, e, I2, T, st, f, q⟩ := h2
  subst e
  refine comp_block (Qd := fun d H' => D.nx (σ.set i (some (.ref d))) H') (RR := fun acc C => compPost (model X.prog X.w) X.A X.xe (some (assign (.Name y py) X.env)) (fun _ s' => SP X pins D .next s') acc C) hc I2 K T st f (fun C => hg _ C _ _ _) (fun C => ht _ C _ _ _) (fun C => he _ C _ _ _) q ?_
  intro d C H' s' I' fC ⟨m, hn⟩ qd
  show wpAny _ X.A (assign (.Name y py) X.env (.ref d)) _ _ _
  refine wpAny_assign_Name (store_ok2 I' hN hy (.inl hyl) (show RelV (.ref d) (.ref d) from rfl) (fun s3 I3 ⟨a, sb, ha⟩ => ?_) (.inr hyl))
  have hCa : C ≠ a := by
    rcases ha with z | z
    · rw [z]; exact fC.2.1
    · exact fun z2 => fC.2.2.2.2.1 y a z z2.symm
  exact ⟨m, hn.sameBut sb hCa, fun h' hs' => ⟨_, H', I3.offC (t' := s3.toks) fC hs', qd⟩⟩
end
end L2

/-! ### exceptions of one's own classes: raised, passed on, caught -/
namespace L2
open PySem PySem.Spec PyProof.Rows

/-- how an exception lies behind a call: it flies over B, which has all that is tracked and all that stood ahead but the callers' frames -/
def CXx (P : Program) (w : World) : CXT := fun outer H s E e s' => ∃ (ea : Addr) (cls a0 : Value) (B : Heap) (H' : Hp),
  e = .ref ea ∧ s'.os = s.os ∧ AllBare s'.gens ∧ Un (frs outer) [] H H' s.heap s'.heap ∧ HOk P w H' s'.heap ∧ Heap.FlyingW B outer ea cls a0 s'.heap ∧
  (∀ b u, H' b = some u → ∃ o, B.get? b = some o) ∧ (∀ b o, s.heap.get? b = some o → b ∉ frs outer → ∃ o', B.get? b = some o') ∧ E cls none H'

theorem HOk.by {P : Program} {w : World} {H : Hp} {h h' B : Heap} (x : HOk P w H h) (hB : ∀ b u, H b = some u → ∃ o, B.get? b = some o) (k1 : B.StaysIn h) (k2 : B.StaysIn h') : HOk P w H h' := fun a o e =>
  (x a o e).stay (fun b u hb q => by
    have ht : ∃ v, H b = some v := by
      rcases hb with rfl | hb
      · exact ⟨_, e⟩
      · exact ⟨_, hb⟩
    obtain ⟨v, hv⟩ := ht
    obtain ⟨o', eB⟩ := hB b v hv
    have := k1 b o' eB
    rw [q] at this; cases this
    exact k2 b _ eB) (fun _ q => q) fun _ _ q => q
theorem frs_cons {env : Env} {L : Addr} {l : List Env} (h : env.frame = some L) : frs (env :: l) = L :: frs l := by
  unfold frs
  rw [List.filterMap_cons, h]
section
variable {X : Cx} {pins : List (Addr × Obj)} {σ : St} {H : Hp} {s s' : Shared} {E : XK} {e : Value}
/-- a frame of a def -/
structure Own (X : Cx) : Prop where
  st : X.stack = X.env :: X.outer
  fr : X.env.frame = some X.env.locals
  ex : X.ex = []

theorem leave_on (O : Own X) (I : Inv X pins σ H s) (h : CXx X.prog X.w X.stack H s E e s') {E' : Value → Shared → Prop} :
    wpAny (model X.prog X.w) X.A (leaving X.env e) (fun _ s'' => CXx X.prog X.w X.outer X.H₀ X.s₀ E e s'') E' s' := by
  obtain ⟨ea, cls, a0, B, H', rfl, os, bare, un, hok, fl, hB1, hB2, he⟩ := h
  have hst := O.st
  have hfs : frs X.stack = X.env.locals :: frs X.outer := by rw [hst, frs_cons O.fr]
  have base0 : Un (frs X.outer) [] X.H₀ H X.s₀.heap s.heap := by
    have := I.base
    rw [O.ex] at this
    exact this
  have U0 : Un (frs X.stack) [] X.H₀ H' X.s₀.heap s'.heap := (base0.mono (fun b hb => by rw [hfs]; exact List.mem_cons_of_mem _ hb) (fun _ z => z)).trans un
  have nst : ∀ b o, X.s₀.heap.get? b = some o → b ∉ frs X.outer → b ∉ frs X.stack := fun b o q hb hm => by
    rw [hfs] at hm
    rcases List.mem_cons.mp hm with z | z
    · exact absurd (Nat.lt_of_lt_of_le (Heap.lt_size q) I.ok.above) (by rw [z]; exact Nat.lt_irrefl _)
    · exact hb z
  have inB : ∀ b o, X.s₀.heap.get? b = some o → b ∉ frs X.outer → ∃ o', B.get? b = some o' := fun b o q hb => by
    obtain ⟨o1, e1⟩ := base0.there b o q (by simp)
    exact hB2 b o1 e1 (nst b o q hb)
  refine wpAny_leaves_onW (L := X.env.locals) (by rw [I.ok.frames, hst]) O.fr (by rw [← hst]; exact fl) fun h' fl' sm => ?_
  have frm : ∀ b ∈ frs X.outer, ∃ o, s'.heap.get? b = some o ∧ ∀ vs, o.data ≠ .fields vs := fun b hb => by
    obtain ⟨_, o, ho, hd⟩ := fl.2.2.1.mem (show b ∈ X.stack.filterMap (·.frame) by
      have : b ∈ frs X.stack := by rw [hfs]; exact List.mem_cons_of_mem _ hb
      exact this)
    exact ⟨o, ho, hd⟩
  have U1 : Un (frs X.outer) [] X.H₀ H' X.s₀.heap h' := by
    refine ⟨fun b o q n hb hx => ?_, fun b o q n hb hx => ?_, U0.free, fun b o q hx => ?_, U0.tups, U0.frzs, U0.tbls⟩
    · obtain ⟨o', eB⟩ := inB b o q hb
      have e1 := U0.keep b o q n (nst b o q hb) hx
      have e2 := fl.1 b o' eB
      rw [e1] at e2; cases e2
      exact fl'.1 b _ eB
    · obtain ⟨sl, e1⟩ := U0.any q n hx
      obtain ⟨o2, e2, hd⟩ := frm b hb
      rw [e1] at e2; cases e2
      obtain ⟨sl2, e3⟩ := sm b _ e1 hd
      exact ⟨sl2, e3⟩
    · by_cases hb : b ∈ frs X.outer
      · obtain ⟨o2, e2, hd⟩ := frm b hb
        obtain ⟨sl2, e3⟩ := sm b _ e2 hd
        exact ⟨_, e3⟩
      · obtain ⟨o', eB⟩ := inB b o q hb
        exact ⟨o', fl'.1 b o' eB⟩
  exact ⟨ea, cls, a0, B, H', rfl, os.trans I.os, bare, U1, hok.by hB1 fl.1 fl'.1, fl', hB1, inB, he⟩
/-- a fresh exception leaves the frame that raised it -/
theorem leave_made (O : Own X) (I : Inv X pins σ H s) {ea : Addr} {cls : Value} {vs : List Value} {h1 : Heap} {tk : Nat} (hm : Heap.MadeExcOf s.heap h1 ea cls vs) (he : E cls none H) {E' : Value → Shared → Prop} :
    wpAny (model X.prog X.w) X.A (leaving X.env (.ref ea)) (fun _ s'' => CXx X.prog X.w X.outer X.H₀ X.s₀ E (.ref ea) s'') E' { s with heap := h1, toks := tk } := by
  have hst := O.st
  have hfs : frs X.stack = X.env.locals :: frs X.outer := by rw [hst, frs_cons O.fr]
  have base0 : Un (frs X.outer) [] X.H₀ H X.s₀.heap s.heap := by
    have := I.base
    rw [O.ex] at this
    exact this
  have hin : ∀ env ∈ (X.env :: X.outer), ∀ b, env.frame = some b → b ∈ (X.env :: X.outer).filterMap (·.frame) := fun env he b hb => List.mem_filterMap.mpr ⟨env, he, hb⟩
  have hS := I.stack
  rw [hst] at hS
  have nst : ∀ b o, X.s₀.heap.get? b = some o → b ∉ frs X.outer → b ∉ (X.env :: X.outer).filterMap (·.frame) := fun b o q hb hm => by
    have hm : b ∈ frs (X.env :: X.outer) := hm
    rw [frs_cons O.fr] at hm
    rcases List.mem_cons.mp hm with z | z
    · exact absurd (Nat.lt_of_lt_of_le (Heap.lt_size q) I.ok.above) (by rw [z]; exact Nat.lt_irrefl _)
    · exact hb z
  have keepB : ∀ b o, s.heap.get? b = some o → b ∉ (X.env :: X.outer).filterMap (·.frame) → (PySem.W.hideAll s.heap ((X.env :: X.outer).filterMap (·.frame))).get? b = some o := fun b o q hb => PySem.W.hideAll_get _ q hb
  refine wpAny_leaves_madeW (L := X.env.locals) (base := PySem.W.hideAll s.heap ((X.env :: X.outer).filterMap (·.frame))) (by rw [I.ok.frames, hst]) O.fr (fun b o q => PySem.W.of_hideAll _ q) (PySem.W.funFrames_hide hS hin) hm fun h' t fl' _ _ sm => ?_
  have trB : ∀ b u, H b = some u → ∃ o, (PySem.W.hideAll s.heap ((X.env :: X.outer).filterMap (·.frame))).get? b = some o := fun b u q => by
    obtain ⟨o, eo⟩ : ∃ o, s.heap.get? b = some o := by
      have := I.hok.lt q
      cases ho : s.heap.get? b with
      | some o => exact ⟨o, rfl⟩
      | none =>
        exfalso
        have x := I.hok b u q
        cases u with
        | lst xs => obtain ⟨_, _, _, _, e⟩ := x; rw [ho] at e; cases e
        | tup xs => obtain ⟨_, _, _, _, e, _⟩ := x; rw [ho] at e; cases e
        | dK kvs => obtain ⟨_, _, _, _, _, _, _, e, _⟩ := x; rw [ho] at e; cases e
        | dT kvs => obtain ⟨_, _, _, _, _, _, _, e, _⟩ := x; rw [ho] at e; cases e
        | set S n => obtain ⟨_, _, _, _, e, _⟩ := x; rw [ho] at e; cases e
        | ins C dx fs => obtain ⟨_, _, _, e, _⟩ := x; rw [ho] at e; cases e
        | own y => obtain ⟨_, e⟩ := x; rw [ho] at e; cases e
        | xd fs => obtain ⟨_, ⟨_, _, _, e, _⟩, _⟩ := x; rw [ho] at e; cases e
        | rng lo hi => obtain ⟨_, _, _, e⟩ := x; rw [ho] at e; cases e
        | frz ob u => obtain ⟨e, _⟩ := x; rw [ho] at e; cases e
        | tbl ps => have e : s.heap.get? b = some _ := x; rw [ho] at e; cases e
        | met f y => have e : s.heap.get? b = some _ := x; rw [ho] at e; cases e
        | ext φ => obtain ⟨_, ⟨_, e⟩, _⟩ := x; rw [ho] at e; cases e
    refine ⟨o, keepB b o eo fun hmem => ?_⟩
    have := I.stkFree b (by rw [hst]; exact hmem)
    rw [q] at this; cases this
  have inB : ∀ b o, X.s₀.heap.get? b = some o → b ∉ frs X.outer → ∃ o', (PySem.W.hideAll s.heap ((X.env :: X.outer).filterMap (·.frame))).get? b = some o' := fun b o q hb => by
    obtain ⟨o1, e1⟩ := base0.there b o q (by simp)
    exact ⟨o1, keepB b o1 e1 (nst b o q hb)⟩
  have frm : ∀ b ∈ frs X.outer, ∃ o, s.heap.get? b = some o ∧ ∀ vs, o.data ≠ .fields vs := fun b hb => by
    obtain ⟨_, o, ho, hd⟩ := hS.mem (show b ∈ (X.env :: X.outer).filterMap (·.frame) by
      have : b ∈ frs (X.env :: X.outer) := by rw [frs_cons O.fr]; exact List.mem_cons_of_mem _ hb
      exact this)
    exact ⟨o, ho, hd⟩
  have U1 : Un (frs X.outer) [] X.H₀ H X.s₀.heap h' := by
    refine ⟨fun b o q n hb hx => ?_, fun b o q n hb hx => ?_, base0.free, fun b o q hx => ?_, base0.tups, base0.frzs, base0.tbls⟩
    · exact fl'.1 b o (keepB b o (base0.keep b o q n hb hx) (nst b o q hb))
    · obtain ⟨sl, e1⟩ := base0.any q n hx
      obtain ⟨o2, e2, hd⟩ := frm b hb
      rw [e1] at e2; cases e2
      obtain ⟨sl2, e3⟩ := sm b _ (hm.keeps _ _ e1) hd
      exact ⟨sl2, e3⟩
    · by_cases hb : b ∈ frs X.outer
      · obtain ⟨o2, e2, hd⟩ := frm b hb
        obtain ⟨sl2, e3⟩ := sm b _ (hm.keeps _ _ e2) hd
        exact ⟨_, e3⟩
      · obtain ⟨o', eB⟩ := inB b o q hb
        exact ⟨o', fl'.1 b o' eB⟩
  exact ⟨ea, cls, _, _, H, rfl, I.os, I.bare, U1, I.hok.by trB (fun b o q => PySem.W.of_hideAll _ q) fl'.1, fl', trB, inB, he⟩
end

/-- an exception of a callee passes out of a def -/
theorem own_of {CX : CXT} {P : Program} {w : World} {K : PySem.W.Frag} {mg : Str → Option Value} {base : Heap} {N : List Str} {qual : Str} {scope : Scope} {f : Addr} {cd : Value} {A : Around} {outer : List Env} {s : Shared} {H : Hp} {E : XK} :
    Own (cxOf CX P w K mg base N qual scope f cd A outer s H E) := ⟨rfl, rfl, rfl⟩
theorem passX {P : Program} {w : World} {K : PySem.W.Frag} {mg : Str → Option Value} {base : Heap} {N : List Str} {qual : Str} {scope : Scope} {f : Addr} {cd : Value} {A : Around} {outer : List Env} {s₀ : Shared} {H₀ : Hp} {E : XK} :
    Passes (CXx P w) (cxOf (CXx P w) P w K mg base N qual scope f cd A outer s₀ H₀ E) E := fun _ _ _ _ _ _ I h => leave_on own_of I h

/-- a class of one's own over a built-in exception, as the top has made it -/
structure ExcC (K : PySem.W.Frag) (mg : Str → Option Value) (x : Str) (C : Addr) (bm : List Value) (newId : String) : Prop where
  at_ : mg x = some (.ref C)
  ex : PySem.W.excIn K C bm newId = true
section
variable {P : Program} {w : World} {K : PySem.W.Frag} {mg : Str → Option Value} {base : Heap} {N : List Str} {qual : Str} {scope : Scope} {f : Addr} {cd : Value} {A : Around} {outer : List Env} {s₀ : Shared} {H₀ : Hp} {E : XK}
theorem excObj {h : Heap} {C : Addr} {bm : List Value} {newId : String} (X : K.In h) (q : PySem.W.excIn K C bm newId = true) :
    ∃ tl N nm qn bs hdct sn sub ab col dd k0 k1 k2 k3 k5 mN, h.get? C = some (excClassObj nm qn C N bs tl hdct sn sub ab col dd k0 k1 k2 k3 k5 newId) ∧ h.Ns N mN ∧ mN "__init__" = none ∧ OwnTail h bm tl := by
  unfold PySem.W.excIn at q
  split at q
  case h_2 => cases q
  case h_1 dd cl sl ho =>
    split at q
    case h_2 => cases q
    case h_1 C' tl k0 k1 k2 k3 n k5 hm hs =>
      simp only [Bool.and_eq_true, beq_iff_eq, Bool.not_eq_true'] at q
      obtain ⟨⟨⟨⟨⟨rfl, rfl⟩, hdel⟩, ht⟩, hok⟩, hni⟩ := q
      obtain ⟨nm, bs, mro, ns, qn, hd, sn, sub, ab, col, del⟩ := cl
      dsimp only at hm hdel hok hni
      subst hm hdel
      obtain rfl : sl = #[k0, k1, k2, k3, some (.builtin n), k5] := by
        obtain ⟨l⟩ := sl
        simp only at hs
        rw [hs]
      exact ⟨tl, ns, nm, qn, bs, hd, sn, sub, ab, col, dd, k0, k1, k2, k3, k5, _, X _ _ ho, .of_isNs (PySem.W.isNs_of_in X hok), PySem.W.nsMap_none_of_in X hok hni, PySem.W.tail_of_in X ht⟩
/-- raise C('..') in a def -/
def tRaise (E : XK) (C : Addr) : TS := fun _ _ H => E (.ref C) none H
theorem ps_raise {x : Str} {C : Addr} {bm : List Value} {B newId initId : String} {msg : Str} {j : Nat} {np cpos pos p0 : Pos} (T : ExcC K mg x C bm newId) (FB : ExcBaseFacts B newId initId bm) (hh : A.handled = none)
    (hg : Gl (cxOf (CXx P w) P w K mg base N qual scope f cd A outer s₀ H₀ E) x) (hd : (x == ("__debug__" : Str)) = false := by decide) :
    PS (cxOf (CXx P w) P w K mg base N qual scope f cd A outer s₀ H₀ E) (.Raise (some (.Call (.Name x np) [.Constant (.str msg) j p0] [] cpos)) none pos) (tRaise E C) := by
  intro pins s σ H D I h
  obtain ⟨tl, N', nm, qn, bs, hdct, sn, sub, ab, col, dd, k0, k1, k2, k3, k5, mN, hC, hN, hni, TL⟩ := excObj I.kIn T.ex
  refine wpAny_Raise_call_subT (C := C) (nm := nm) (q := qn) (N := N') (bs := bs) (bm := tl) (hdct := hdct) (sn := sn) (sub := sub) (ab := ab) (col := col) (dd := dd) (k0 := k0) (k1 := k1) (k2 := k2) (k3 := k3) (k5 := k5)
    FB (mN := mN) (TL.hasType FB.hasBase) hh rfl hni (ld_glob I hg T.at_ ⟨rfl, ?_⟩ hd)
  refine Calls.evalArgs_plain (Calls.spliced_cons (Calls.Constant_str (pos := p0) (k := j) (Calls.spliced_nil ?_)))
  refine ⟨rfl, by rw [List.length_singleton, sizeLine_eq]; decide, hC, hN, TL, fun h' e hm => ?_⟩
  exact leave_made own_of (I.tok (s.toks + 1)) (tk := s.toks + 1) hm h
end
end L2

/-! ### try, except: a body that may raise, its handlers -/
namespace L2
open PySem PySem.Spec PyProof.Rows

/-- what has been raised in the body of a try: by a call made where the state was s, σ, H -/
def trX (X : Cx) (R : Value → St → Hp → Prop) (e : Value) (s' : Shared) : Prop :=
  ∃ (pins' : List (Addr × Obj)) (σ : St) (H : Hp) (s : Shared), Inv X pins' σ H s ∧ CXx X.prog X.w X.stack H s (fun cls _ H' => R cls σ H') e s'
/-- the context with further pins -/
abbrev Cx.pin (X : Cx) (pins : List (Addr × Obj)) : Cx := { X with pn := X.pn ++ pins }
/-- the context of a try's body -/
abbrev Cx.tr (X : Cx) (pins : List (Addr × Obj)) (R : Value → St → Hp → Prop) : Cx := { X with pn := X.pn ++ pins, xe := trX (X.pin pins) R }
/-- the context of an except suite -/
abbrev Cx.held (X : Cx) (ea : Addr) : Cx := { X with A := X.A.mark (some (.ref ea)), calm := false, xe := fun _ _ => False }

section
variable {X : Cx} {pins pins' : List (Addr × Obj)} {σ : St} {H : Hp} {s : Shared} {R : Value → St → Hp → Prop}
theorem Cx.Ok.toTr (ok : X.Ok) (pins : List (Addr × Obj)) (R : Value → St → Hp → Prop) : (X.tr pins R).Ok :=
  ⟨ok.mod, ok.kind, ok.glob, ok.blt, ok.above, ok.inj, ok.has, ok.cab, ok.hd, ok.frames, ok.stk, ok.exf, ok.bs, ok.bsz, ok.noex, ok.exfs, ok.funs, ok.frf⟩
theorem Cx.Ok.ofTr (ok : (X.tr pins R).Ok) : X.Ok :=
  ⟨ok.mod, ok.kind, ok.glob, ok.blt, ok.above, ok.inj, ok.has, ok.cab, ok.hd, ok.frames, ok.stk, ok.exf, ok.bs, ok.bsz, ok.noex, ok.exfs, ok.funs, ok.frf⟩
theorem Cx.Ok.toPin (ok : X.Ok) (pins : List (Addr × Obj)) : (X.pin pins).Ok :=
  ⟨ok.mod, ok.kind, ok.glob, ok.blt, ok.above, ok.inj, ok.has, ok.cab, ok.hd, ok.frames, ok.stk, ok.exf, ok.bs, ok.bsz, ok.noex, ok.exfs, ok.funs, ok.frf⟩
theorem Cx.Ok.ofPin (ok : (X.pin pins).Ok) : X.Ok :=
  ⟨ok.mod, ok.kind, ok.glob, ok.blt, ok.above, ok.inj, ok.has, ok.cab, ok.hd, ok.frames, ok.stk, ok.exf, ok.bs, ok.bsz, ok.noex, ok.exfs, ok.funs, ok.frf⟩
theorem Cx.Ok.toHeld (ok : X.Ok) (ea : Addr) : (X.held ea).Ok :=
  ⟨ok.mod, ok.kind, ok.glob, ok.blt, ok.above, ok.inj, ok.has, ok.cab, fun z => Bool.noConfusion z, ok.frames, ok.stk, ok.exf, ok.bs, ok.bsz, ok.noex, ok.exfs, ok.funs, ok.frf⟩
theorem Inv.toTr (I : Inv X pins σ H s) (R : Value → St → Hp → Prop) : Inv (X.tr pins R) [] σ H s :=
  ⟨I.ok.toTr pins R, I.os, I.bare, I.base, I.loc, I.cell, I.free, I.freeC, fun p hp => I.pin p ((List.mem_append.mp hp).elim id fun z => absurd z (by simp)), I.hok, I.len⟩
theorem Inv.ofTr (I : Inv (X.tr pins R) [] σ H s) : Inv X pins σ H s :=
  ⟨I.ok.ofTr, I.os, I.bare, I.base, I.loc, I.cell, I.free, I.freeC, fun p hp => I.pin p (List.mem_append_left _ hp), I.hok, I.len⟩
theorem Inv.trPin (I : Inv (X.tr pins R) pins' σ H s) : Inv (X.pin pins) pins' σ H s :=
  ⟨I.ok.ofTr.toPin pins, I.os, I.bare, I.base, I.loc, I.cell, I.free, I.freeC, I.pin, I.hok, I.len⟩
theorem Inv.ofPin (I : Inv (X.pin pins) pins' σ H s) : Inv X pins σ H s :=
  ⟨I.ok.ofPin, I.os, I.bare, I.base, I.loc, I.cell, I.free, I.freeC, fun p hp => I.pin p (List.mem_append_left _ hp), I.hok, I.len⟩
theorem Inv.toHeld (I : Inv X pins σ H s) (ea : Addr) : Inv (X.held ea) pins σ H s :=
  ⟨I.ok.toHeld ea, I.os, I.bare, I.base, I.loc, I.cell, I.free, I.freeC, I.pin, I.hok, I.len⟩
/-- back from the suite: the context's own facts are those of before -/
theorem Inv.ofHeld {ea : Addr} (ok : X.Ok) (I : Inv (X.held ea) pins σ H s) : Inv X pins σ H s :=
  ⟨ok, I.os, I.bare, I.base, I.loc, I.cell, I.free, I.freeC, I.pin, I.hok, I.len⟩
end

/-- an exception of class cls has been caught: s is the state, whose tracked part is H -/
structure Cau (X : Cx) (pins : List (Addr × Obj)) (σ : St) (H : Hp) (ea : Addr) (cls : Value) (s : Shared) : Prop where
  ex : ∃ (H1 : Hp) (s0 : Shared) (B : Heap) (a0 : Value), Inv X pins σ H1 s0 ∧ s.os = s0.os ∧ AllBare s.gens ∧ Un (frs X.stack) [] H1 H s0.heap s.heap ∧ HOk X.prog X.w H s.heap ∧ Heap.FlyingW B X.stack ea cls a0 s.heap ∧
    (∀ b u, H b = some u → ∃ o, B.get? b = some o) ∧ ∀ b o, s0.heap.get? b = some o → b ∉ frs X.stack → ∃ o', B.get? b = some o'

theorem un_fly {outer : List Env} {H H' : Hp} {h h1 h2 B : Heap} {ea : Addr} {cls a0 : Value} (un : Un (frs outer) [] H H' h h1) (fl : Heap.FlyingW B outer ea cls a0 h1) (k2 : B.StaysIn h2) (sm : h1.UpToSlots h2)
    (inB : ∀ b o, h.get? b = some o → b ∉ frs outer → ∃ o', B.get? b = some o') : Un (frs outer) [] H H' h h2 := by
  have frm : ∀ b ∈ frs outer, ∃ o, h1.get? b = some o ∧ ∀ vs, o.data ≠ .fields vs := fun b hb => by
    obtain ⟨_, o, ho, hd⟩ := fl.2.2.1.mem (show b ∈ outer.filterMap (·.frame) from hb)
    exact ⟨o, ho, hd⟩
  refine ⟨fun b o q n hb hx => ?_, fun b o q n hb hx => ?_, un.free, fun b o q hx => ?_, un.tups, un.frzs, un.tbls⟩
  · obtain ⟨o', eB⟩ := inB b o q hb
    have e1 := un.keep b o q n hb hx
    have e2 := fl.1 b o' eB
    rw [e1] at e2; cases e2
    exact k2 b _ eB
  · obtain ⟨sl, e1⟩ := un.slot b o q n hb hx
    obtain ⟨o2, e2, hd⟩ := frm b hb
    rw [e1] at e2; cases e2
    obtain ⟨sl2, e3⟩ := sm b _ e1 hd
    exact ⟨sl2, e3⟩
  · by_cases hb : b ∈ frs outer
    · obtain ⟨o2, e2, hd⟩ := frm b hb
      obtain ⟨sl2, e3⟩ := sm b _ e2 hd
      exact ⟨_, e3⟩
    · obtain ⟨o', eB⟩ := inB b o q hb
      exact ⟨o', k2 b o' eB⟩

section
variable {X : Cx} {pins : List (Addr × Obj)} {σ : St} {H : Hp} {s : Shared} {ea : Addr} {cls : Value}
theorem Cau.inv (c : Cau X pins σ H ea cls s) : Inv X pins σ H s := by
  obtain ⟨H1, s0, B, a0, I0, os, bare, un, hok, fl, hB1, hB2⟩ := c.ex
  exact I0.call' (ch := []) os un hok bare (fun b z => absurd z (by simp))
theorem Cau.ty (c : Cau X pins σ H ea cls s) {M : Model} : PySem.W.Looks M s.heap (typeOf (.ref ea)) cls := by
  obtain ⟨H1, s0, B, a0, I0, os, bare, un, hok, fl, hB1, hB2⟩ := c.ex
  obtain ⟨ob, ho, hc⟩ := fl.there
  exact hc ▸ (PySem.W.Looks.ld ho).andThen .now
/-- setFlight once more -/
theorem Cau.again (c : Cau X pins σ H ea cls s) {M : Model} {A : Around} {E : Value → Shared → Prop} {Q : Unit → Shared → Prop} (h : ∀ h', Cau X pins σ H ea cls { s with heap := h' } → Q () { s with heap := h' }) :
    wpAny M A (setFlight (.ref ea) none) Q E s := by
  obtain ⟨H1, s0, B, a0, I0, os, bare, un, hok, fl, hB1, hB2⟩ := c.ex
  refine lands_againW fl fun h' fl' sm => h h' ⟨H1, s0, B, a0, I0, os, bare, un_fly un fl fl'.1 sm hB2, hok.by hB1 fl.1 fl'.1, fl', hB1, hB2⟩
end

/-- what the handlers do with an exception of class cls -/
def PH (X : Cx) (hs : List ExceptHandler) (th : Value → TS) : Prop :=
  ∀ (pins : List (Addr × Obj)) (s : Shared) (σ : St) (H : Hp) (D : Ends) (ea : Addr) (cls : Value), Cau X pins σ H ea cls s → th cls D σ H → wpAny (model X.prog X.w) X.A (handleBy (.ref ea) X.env hs) (SP X pins D) X.xe s

/-- try: body, then the handlers; tb: the body's reading, for whatever is wanted of its exceptions -/
def tTry (tb : (Value → St → Hp → Prop) → TS) (th : Value → TS) : TS := fun D σ H => tb (fun cls σ' H' => th cls D σ' H') D σ H
theorem ps_try {X : Cx} {body : List Stmt} {h₀ : ExceptHandler} {hs : List ExceptHandler} {pos : Pos} {tb : (Value → St → Hp → Prop) → TS} {th : Value → TS} (O : Own X) (hb : ∀ pins R, PSs (X.tr pins R) body (tb R)) (hh : PH X (h₀ :: hs) th) :
    PS X (.Try body (h₀ :: hs) [] [] pos) (tTry tb th) := by
  intro pins s σ H D I h
  refine wpAny_Try_except (wpAny_mono (hb pins _ [] s σ H D (I.toTr _) h) (fun f s1 q => ?_) fun e s1 hx => ?_)
  · cases f with
    | next => obtain ⟨σ', H', I', q⟩ := q; exact wpAny_execs_nil ⟨σ', H', I'.ofTr, q⟩
    | brk => obtain ⟨σ', H', I', q⟩ := q; exact ⟨σ', H', I'.ofTr, q⟩
    | cont => obtain ⟨σ', H', I', q⟩ := q; exact ⟨σ', H', I'.ofTr, q⟩
    | ret u => obtain ⟨v, σ', H', I', r, q⟩ := q; exact ⟨v, σ', H', I'.ofTr, r, q⟩
  · obtain ⟨pins', σ1, H1, s0, I0, ea, cls, a0, B, H', rfl, os, bare, un, hok, fl, hB1, hB2, he⟩ := hx
    have fl0 : Heap.FlyingW B (X.env :: X.outer) ea cls a0 s1.heap := by rw [← O.st]; exact fl
    refine wpAny_looks_onW (L := X.env.locals) (by rw [I.ok.frames, O.st]) O.fr fl0 fun h4 held sm4 => ?_
    refine wpAny_landsW held fun h5 fl5 sm5 => ?_
    have fl5' : Heap.FlyingW B X.stack ea cls a0 h5 := by rw [O.st]; exact fl5
    refine hh pins _ σ1 H' D ea cls ⟨H1, s0, B, a0, I0.ofPin, os, bare, un_fly un fl fl5'.1 (sm4.trans sm5) hB2, hok.by hB1 fl.1 fl5'.1, fl5', hB1, hB2⟩ he

/-- a suite without a name -/
def tHit (K : PySem.W.Frag) (C : Addr) (ts : TS) (tr : Value → TS) : Value → TS := fun cls D σ H => ∃ b, PySem.W.exmOne K cls (.ref C) = some b ∧ if b = true then ts D σ H else tr cls D σ H
theorem ph_hit {X : Cx} {x : Str} {C : Addr} {np pos : Pos} {b₀ : Stmt} {suite : List Stmt} {rest : List ExceptHandler} {ts : TS} {tr : Value → TS} (hg : Gl X x) (hm : X.mg x = some (.ref C)) (hs : ∀ ea, PSs (X.held ea) (b₀ :: suite) ts) (hr : PH X rest tr)
    (hd : (x == ("__debug__" : Str)) = false := by decide) : PH X (.ExceptHandler (some (.Name x np)) none (b₀ :: suite) pos :: rest) (tHit X.K C ts tr) := by
  intro pins s σ H D ea cls c h
  obtain ⟨b, hx, h⟩ := h
  refine wpAny_handleBy_cons (codeAny_handlers_test (ld_glob (X := X.held ea) (c.inv.toHeld ea) hg hm ?_ hd)) (by intro q; cases q)
  refine (PySem.W.exm_one c.inv.kIn c.ty hx).here ?_
  cases b with
  | true =>
    rw [if_pos rfl] at h
    refine codeAny_handlers_suite (c.again fun h' c' => ?_)
    refine wpAny_mono (hs ea pins _ σ H D (c'.inv.toHeld ea) h) (fun f s2 q => ?_) fun _ _ z => False.elim z
    show SP X pins D f s2
    cases f with
    | next => obtain ⟨σ', H', I', q⟩ := q; exact ⟨σ', H', I'.ofHeld c.inv.ok, q⟩
    | brk => obtain ⟨σ', H', I', q⟩ := q; exact ⟨σ', H', I'.ofHeld c.inv.ok, q⟩
    | cont => obtain ⟨σ', H', I', q⟩ := q; exact ⟨σ', H', I'.ofHeld c.inv.ok, q⟩
    | ret u => obtain ⟨v, σ', H', I', r, q⟩ := q; exact ⟨v, σ', H', I'.ofHeld c.inv.ok, r, q⟩
  | false =>
    rw [if_neg Bool.false_ne_true] at h
    exact hr pins s σ H D ea cls c h
/-- no clause is left: never come to -/
theorem ph_nil {X : Cx} : PH X [] (fun _ _ _ _ => False) := fun _ _ _ _ _ _ _ _ h => h.elim

/-- an exception object of the class at C -/
def excO (a C : Addr) : HO := .ext fun h => ∃ o vs, h.get? a = some o ∧ o.cls = .ref C ∧ o.data = .fields vs
section
variable {X : Cx} {pins : List (Addr × Obj)} {σ : St} {H : Hp} {s : Shared} {ea C : Addr}
/-- the caught exception is told among the tracked -/
theorem Cau.track (O : Own X) (c : Cau X pins σ H ea (.ref C) s) : H ea = none ∧ Inv X pins σ (upd H ea (excO ea C)) s := by
  have I := c.inv
  obtain ⟨H1, s0, B, a0, I0, os, bare, un, hok, fl, hB1, hB2⟩ := c.ex
  obtain ⟨oe, vs, he, hec, hed, _⟩ := fl.first
  have hBe : B.get? ea = none := fl.2.1
  have hn : H ea = none := by
    cases q : H ea with
    | none => rfl
    | some u => obtain ⟨o, e⟩ := hB1 ea u q; rw [hBe] at e; cases e
  have nfr : ea ∉ frs X.stack := fun hm => by
    obtain ⟨_, o, ho, hd⟩ := fl.2.2.1.mem (show ea ∈ X.stack.filterMap (·.frame) from hm)
    rw [he] at ho; cases ho
    exact hd _ hed
  have n0 : s0.heap.get? ea = none := by
    cases q : s0.heap.get? ea with
    | none => rfl
    | some o => obtain ⟨o', e⟩ := hB2 ea o q nfr; rw [hBe] at e; cases e
  have nS : X.s₀.heap.get? ea = none := by
    cases q : X.s₀.heap.get? ea with
    | none => rfl
    | some o =>
      obtain ⟨o', e⟩ := I0.base.there ea o q (by rw [O.ex]; simp)
      rw [n0] at e; cases e
  have neE : ∀ b u, H b = some u → b ≠ ea := fun b u e z => by rw [z, hn] at e; cases e
  have keepT : ∀ b u, H b = some u → upd H ea (excO ea C) b = some u := fun b u e => by rw [upd_ne (neE b u e)]; exact e
  refine ⟨hn, I.ok, I.os, I.bare, ⟨I.base.keep, I.base.slot, fun b o e n hx => ?_, I.base.there, fun b xs e => keepT _ _ (I.base.tups b xs e), fun b o u e => keepT _ _ (I.base.frzs b o u e), fun b ps e => ?_⟩, I.loc, I.cell, ?_, fun x a e => ?_, fun p hp => ?_, fun b u e => ?_, I.len⟩
  · rw [upd_ne (fun z => by rw [z, nS] at e; cases e)]
    exact I.base.free b o e n hx
  · obtain ⟨more, e⟩ := I.base.tbls b ps e
    exact ⟨more, keepT _ _ e⟩
  · rw [upd_ne (fun z => ?_)]
    · exact I.free
    · obtain ⟨m, ⟨o, es, ep, ho, hd, _⟩, _⟩ := I.loc
      rw [z, he] at ho; cases ho
      rw [hed] at hd; cases hd
  · rw [upd_ne (fun z => ?_)]
    · exact I.freeC x a e
    · obtain ⟨v, o, ho, hd⟩ := I.cell x a e
      rw [z, he] at ho; cases ho
      rw [hed] at hd; cases hd
  · obtain ⟨e, n, ne, nf, d⟩ := I.pin p hp
    refine ⟨e, ?_, ne, nf, d⟩
    rw [upd_ne (fun z => ?_)]
    · exact n
    · obtain ⟨e0, _⟩ := I0.pin p hp
      rw [z, n0] at e0; cases e0
  · by_cases hb : b = ea
    · subst hb
      rw [upd_same] at e; cases e
      refine ⟨⟨oe, vs, he, hec, hed⟩, ⟨oe, he⟩, fun h1 h2 x k => ?_⟩
      obtain ⟨o, ws, a1, a2, a3⟩ := x
      exact ⟨o, ws, k o a1, a2, a3⟩
    · rw [upd_ne hb] at e
      exact (I.hok b u e).stay (fun _ _ _ q => q) (fun a q => keepT _ _ q) fun a xs q => keepT _ _ q
/-- a local name is unbound -/
theorem Inv.goes {i : Nat} {x : Str} {h' : Heap} {v : Option Value} {t' : Nat} {m : Str → Option Value} (I : Inv X pins σ H s) (hN : X.N.Nodup) (hi : X.N[i]? = some x) (hn : s.heap.Ns X.env.locals m)
    (hl : ∀ (j : Nat) (y : Str) (v : V), X.N[j]? = some y → σ[j]? = some (some v) → Vis X.env.scope y → ∃ u, RelV v u ∧ Look X.env s.heap m y u)
    (hn' : h'.Ns X.env.locals (fun y => if y = x then v else m y)) (hs : Heap.SameBut X.env.locals s.heap h') : Inv X pins (σ.set i none) H { s with heap := h', toks := t' } := by
  have lt : ∀ b o, X.s₀.heap.get? b = some o → b ≠ X.env.locals := fun b o e => Nat.ne_of_lt (Nat.lt_of_lt_of_le (Heap.lt_size e) I.ok.above)
  obtain ⟨oL, _, _, hoL, _⟩ := id hn
  refine ⟨I.ok, I.os, I.bare, ⟨fun b o e n hb hx => ?_, fun b o e n hb hx => ?_, I.base.free, fun b o e hx => ?_, I.base.tups, I.base.frzs, I.base.tbls⟩, ⟨_, hn', fun j y w e1 e2 e3 => ?_⟩, fun y c e => ?_, I.free, I.freeC, fun p hp => ?_, fun b u e => ?_, by simpa using I.len⟩
  · exact (hs.2 b (lt b o e)).trans (I.base.keep b o e n hb hx)
  · obtain ⟨sl, e1⟩ := I.base.slot b o e n hb hx
    exact ⟨sl, (hs.2 b (lt b o e)).trans e1⟩
  · obtain ⟨o', e1⟩ := I.base.there b o e hx
    exact ⟨o', (hs.2 b (lt b o e)).trans e1⟩
  · by_cases hj : j = i
    · subst hj
      rw [List.getElem?_set] at e2
      simp only [if_true] at e2
      split at e2 <;> cases e2
    · rw [List.getElem?_set_ne (Ne.symm hj)] at e2
      obtain ⟨u, r, q⟩ := hl j y w e1 e2 e3
      refine ⟨u, r, ?_⟩
      rcases q with ⟨k, e⟩ | ⟨k, c, e, z⟩
      · refine .inl ⟨k, ?_⟩
        have ny : y ≠ x := fun e => hj (nodup_ix hN e1 (e ▸ hi))
        simp [ny, e]
      · exact .inr ⟨k, c, e, z.sameBut hs (I.cne y c e)⟩
  · obtain ⟨w, z⟩ := I.cell y c e
    exact ⟨w, z.sameBut hs (I.cne y c e)⟩
  · obtain ⟨e, n, ne, nf, d⟩ := I.pin p hp
    exact ⟨(hs.2 p.1 ne).trans e, n, ne, nf, d⟩
  · refine (I.hok b u e).stay (fun c w hc q => (hs.2 c ?_).trans q) (fun _ q => q) fun _ _ q => q
    rintro rfl
    rcases hc with rfl | hc
    · rw [I.free] at e; cases e
    · rw [I.free] at hc; cases hc
theorem goes_ok {M : Model} {A : Around} {E : Value → Shared → Prop} {i : Nat} {x : Str} {pos : Pos} {Q : Unit → Shared → Prop} (I : Inv X pins σ H s) (hN : X.N.Nodup) (hi : X.N[i]? = some x) (hk : X.env.kindOf x = some .local)
    (h : ∀ s', Inv X pins (σ.set i none) H s' → Q () s') : wpAny M A (do bindName X.env x .none; unbindBehindTheSuite X.env x pos) Q E s := by
  obtain ⟨m, hn, hl⟩ := I.loc
  refine wpAny_nameGoes_keeps hk hn (by rw [I.ok.kind]; rfl) fun h' v hn' hs => h _ (I.goes hN hi hn hl hn' hs)
end

/-- a suite with a name -/
def tHitAs (K : PySem.W.Frag) (C : Addr) (i : Nat) (ts : TS) (tr : Value → TS) : Value → TS := fun cls D σ H => ∃ b, PySem.W.exmOne K cls (.ref C) = some b ∧ if b = true then
    ∃ Cx, cls = .ref Cx ∧ ∀ ea, H ea = none → ts { nx := fun σ' H' => D.nx (σ'.set i none) H', rt := D.rt, bk := fun σ' H' => D.bk (σ'.set i none) H', ct := fun σ' H' => D.ct (σ'.set i none) H' } (σ.set i (some (.ref ea))) (upd H ea (excO ea Cx))
  else tr cls D σ H
theorem ph_hitAs {X : Cx} {x n : Str} {C : Addr} {i : Nat} {np pos : Pos} {b₀ : Stmt} {suite : List Stmt} {rest : List ExceptHandler} {ts : TS} {tr : Value → TS} (O : Own X) (hg : Gl X x) (hm : X.mg x = some (.ref C)) (hN : X.N.Nodup) (hi : X.N[i]? = some n) (hk : X.env.kindOf n = some .local)
    (hlo : X.env.scope.names.lookup n = some .local) (hs : ∀ ea, PSs (X.held ea) (b₀ :: suite) ts) (hr : PH X rest tr) (hd : (x == ("__debug__" : Str)) = false := by decide) :
    PH X (.ExceptHandler (some (.Name x np)) (some n) (b₀ :: suite) pos :: rest) (tHitAs X.K C i ts tr) := by
  intro pins s σ H D ea cls c h
  obtain ⟨b, hx, h⟩ := h
  refine wpAny_handleBy_cons (codeAny_handlers_test (ld_glob (X := X.held ea) (c.inv.toHeld ea) hg hm ?_ hd)) (by intro q; cases q)
  refine (PySem.W.exm_one c.inv.kIn c.ty hx).here ?_
  cases b with
  | true =>
    rw [if_pos rfl] at h
    obtain ⟨Cx, rfl, h⟩ := h
    refine codeAny_handlers_suite_as (c.again fun h' c' => ?_)
    obtain ⟨hn, I'⟩ := c'.track O
    refine store_ok (X := X.held ea) (I'.toHeld ea) hN hi (.inl hlo) (v := .ref ea) (u := .ref ea) rfl (fun s3 I3 => ?_) (.inr hlo)
    refine wpAny_mono (hs ea pins s3 _ _ _ I3 (h ea hn)) (fun f s4 q => ?_) fun _ _ z => False.elim z
    show wpAny _ X.A (do bindName X.env n .none; unbindBehindTheSuite X.env n pos) (fun _ s5 => SP X pins D f s5) X.xe s4
    cases f with
    | next => obtain ⟨σ', H', I4, q⟩ := q; exact goes_ok (I4.ofHeld c.inv.ok) hN hi hk fun s5 I5 => ⟨_, H', I5, q⟩
    | brk => obtain ⟨σ', H', I4, q⟩ := q; exact goes_ok (I4.ofHeld c.inv.ok) hN hi hk fun s5 I5 => ⟨_, H', I5, q⟩
    | cont => obtain ⟨σ', H', I4, q⟩ := q; exact goes_ok (I4.ofHeld c.inv.ok) hN hi hk fun s5 I5 => ⟨_, H', I5, q⟩
    | ret u => obtain ⟨v, σ', H', I4, r, q⟩ := q; exact goes_ok (I4.ofHeld c.inv.ok) hN hi hk fun s5 I5 => ⟨v, _, H', I5, r, q⟩
  | false =>
    rw [if_neg Bool.false_ne_true] at h
    exact hr pins s σ H D ea cls c h

/-! a call of a class in a try's body: what is wanted of its exceptions hangs on the names' values there -/
def PassS (CX : CXT) (X : Cx) (E : St → XK) : Prop := ∀ (pins : List (Addr × Obj)) (σ : St) (H : Hp) (s : Shared) (e : Value) (s' : Shared), Inv X pins σ H s → CX X.stack H s (E σ) e s' → X.xe e s'
theorem passTr {X : Cx} {pins : List (Addr × Obj)} {R : Value → St → Hp → Prop} : PassS (CXx X.prog X.w) (X.tr pins R) (fun σ cls _ H' => R cls σ H') := fun pins' σ H s e s' I h => ⟨pins', σ, H, s, I.trPin, h⟩
def tMakeS (C : Addr) (sp : Sp) (E : St → XK) (t : TA) : TE := fun σ H Q => t σ H fun vs H1 => ∀ x dx, H1 x = none → H1 dx = none → dx ≠ x →
  sp (.ref x :: vs) (upd (upd H1 dx (.own x)) x (.ins C dx [])) (fun v H2 => v = .non ∧ Q (.ref x) H2) (E σ)
section
variable {X : Cx} {CX : CXT} {k : Nat} {f C : Addr} {fd : FuncData} {ps : List Str} {sp : Sp} {E : St → XK} {x : Str} {p pos : Pos} {e : Expr} {es : List Expr} {t : TA}
theorem pe_makeS (M : Mk X.K C f) (F : FnOk X.prog X.w X.K X.mg X.base CX k f fd ps sp) (hr : Room (k + 1) X.A) (hg : Gl X x) (hm : X.mg x = some (.ref C)) (hb : Binds X.K fd ps []) (hx : PassS CX X E)
    (ha : PA X (e :: es) t) (hdb : (x == ("__debug__" : Str)) = false := by decide) (he : starEach (e :: es) X.env = (false, eval e X.env) :: starEach es X.env := by rfl) (hpl : (backTo pos (starEach es X.env)).any (·.1) = false := by rfl) :
    PE X (.Call (.Name x p) (e :: es) [] pos) (tMakeS C sp E t) := by
  intro pins s σ H Q I h
  refine wpAny_Call_Name_kw (ld_glob I hg hm ?_ hdb)
  refine PySem.W.callWith_K (h₀ := X.base) I.ok.mod.kin M.kp (thn (ha pos pins s σ H _ I h) fun us s1 ⟨vs, H1, I1, r, q⟩ => ⟨I1.kIn, ?_⟩) he hpl
  have hq := q (s1.heap.objs.size + 1) s1.heap.objs.size (I1.hok.fresh (Nat.le_succ _)) (I1.hok.fresh (Nat.le_refl _)) (Nat.ne_of_lt (Nat.lt_succ_self _))
  have I2 := Inv.made (C := C) I1
  have r2 : Vals (V.ref (s1.heap.objs.size + 1) :: vs) (Value.ref (s1.heap.objs.size + 1) :: us) := .cons rfl r
  have hl : (Value.ref (s1.heap.objs.size + 1) :: us ++ []).length = ps.length := by
    have e := r2.length
    rw [F.len _ _ _ _ hq] at e
    rw [List.append_nil]
    exact e.symm
  have hb2 := hb _ (Value.ref (s1.heap.objs.size + 1) :: us) I2.kIn hl
  rw [List.append_nil] at hb2
  refine wpAny_call (make_map (f := f) I1.kIn M.makes M.init (beq_iff_eq.mp M.fn) (codeAny_mono (F.run _ X.stack _ _ ⟨Value.ref (s1.heap.objs.size + 1) :: us, []⟩ (Value.ref (s1.heap.objs.size + 1) :: us) _ _ (E σ) (hr.make C us [])
    (I2.env0.make C us []) hb2 r2 hq) fun r s' hq' => ?_))
  cases r with
  | error e => exact hx pins σ _ _ e s' I2 hq'
  | ok fl =>
    cases fl with
    | ret u =>
      obtain ⟨v, H', I3, rv, ev, q3⟩ := I2.after hq'
      subst ev
      exact ⟨rv, ⟨V.ref (s1.heap.objs.size + 1), H', I3, rfl, q3⟩⟩
    | next => exact False.elim hq'
    | brk => exact False.elim hq'
    | cont => exact False.elim hq'
end
end L2

/-! ### isinstance of an exception of one's own class -/
namespace L2
open PySem PySem.Spec PyProof.Rows PySem.W Builtin Builtin.ObjectAttr Builtin.Getset_descriptor

/-- what is asked of the class of an exception -/
structure ExcA (K : Frag) (C : Addr) : Prop where
  ga : findIn K (.ref C) "__getattribute__" = some (some (.builtin "BaseException.__getattribute__"))
  gx : findIn K (.ref C) "__getattr__" = some none
  ca : findIn K (.ref C) "__class__" = some (some (.builtin "object.__class__"))
  cn : specialIn K (.builtin "object.__class__") "__get__" = some (some (.builtin "getset_descriptor.__get__"))
  ct : takesIn K (.builtin "object.__class__") = some true
  mo : mroIn K C (.type "object") = some true
  mb : mroIn K C (.type "BaseException") = some true
  cl : (clsIn K C).isSome = true

section
variable {K : Frag} {C x : Addr} {h : Heap} {M : Model}
theorem excLookFind (X : K.In h) (T : ExcA K C) : Looks M h (find (.ref x) (.ref C) "__class__") (.bind (.builtin "getset_descriptor.__get__") (.builtin "object.__class__")) := by
  have l1 := looks_findIn (M := M) X T.ca
  have l2 : Looks M h (getOf (some (.builtin "object.__class__"))) (some (.builtin "getset_descriptor.__get__")) := looks_specialIn X T.cn
  have l3 := looks_takesIn (M := M) X T.ct
  refine l1.andThen (l2.andThen ?_)
  have l4 : Looks M h (dataDescriptor? (some (.builtin "object.__class__")) (some (.builtin "getset_descriptor.__get__"))) (some (.builtin "getset_descriptor.__get__", .builtin "object.__class__")) := l3.andThen .now
  exact l4.andThen (Looks.tag .now)
variable {prog : Program} {w : World} {A : Around} {E : Value → Shared → Prop} {s : Shared}
theorem excClassGet {R : Result → Shared → Prop} {tp : Value} (X : K.In s.heap) (LT : Looks (model prog w) s.heap (typeOf (.ref x)) (.ref C)) (T : ExcA K C) (h : R (.ok (.ret (.ref C))) s) :
    codeAny (model prog w) A (.call (.builtin "getset_descriptor.__get__") ⟨[.builtin "object.__class__", .ref x, tp], []⟩) R s := by
  obtain ⟨hh, gg, dd, tt, oo⟩ := s
  have lm := looks_mroIn (M := model prog w) X T.mo
  refine codeAny_call_builtin KF.slot_gs.plain KF.entry_gs
    (KF.slot_gs.check _ _ _ _ _ _ _ _ KF.type_class (KF.args_gs _ _ _) ?_)
  unfold Builtin.«getset_descriptor.__get__»
  unfold descrGet
  rw [dga_obj]
  refine wpAny_bind (wpAny_pure ?_)
  unfold descrGetter descrCheckInstance
  unfold descrNameAndClass isInstance
  simp only [KF.owner_class]
  repeat lk
  refine ⟨Code.quiet_builtin _ (by decide +kernel),
    codeAny_builtin KF.entry_class ?_⟩
  unfold Builtin.«object.__class__»
  unfold shownTypeOf
  repeat lk
  first | exact h | skip
theorem excCheckGa {nameV : Value} {Q : Unit → Shared → Prop} (X : K.In s.heap) (LT : Looks M s.heap (typeOf (.ref x)) (.ref C)) (T : ExcA K C) (hq : Q () s) :
    wpAny M A (checkBuiltinCall "BaseException.__getattribute__" ⟨[.ref x, nameV], []⟩) Q E s := by
  obtain ⟨hh, gg, dd, tt, oo⟩ := s
  have lm := looks_mroIn (M := M) X T.mb
  have li : Looks M hh (isInstance (.ref x) (.type "BaseException")) true := LT.andThen lm
  have k1 : builtinKind "BaseException.__getattribute__" = some .slot := by decide +kernel
  have k2 : splitId "BaseException.__getattribute__" = some ("BaseException", "__getattribute__") := by decide +kernel
  have ar := F.args_bexc_ga (.ref x) nameV
  simp only [checkBuiltinCall, k1, k2]
  refine wpAny_bind (li.at ?_)
  repeat (any_goals (first | assumption | wp_step))
  all_goals first | exact hq | skip
theorem excGetEntry {tk : Tok} {Q : Fin → Shared → Prop} (X : K.In s.heap) (LT : Looks (model prog w) s.heap (typeOf (.ref x)) (.ref C)) (T : ExcA K C) (hq : Q (.done (.ret (.ref C))) s) :
    wpAny (model prog w) A (Builtin.«object.__getattribute__» ⟨[.ref x, .str "__class__" tk], []⟩) Q E s := by
  have lf := excLookFind (x := x) (M := model prog w) X T
  unfold Builtin.«object.__getattribute__»
  refine wpAny_bind (wpAny_pure ?_)
  refine wpAny_bind (wpAny_pure ?_)
  refine wpAny_bind (LT.here (wpAny_bind (lf.here ?_)))
  show wpAny _ _ (holding _ (call _ [_, .ref x, .ref C]) >>= ret) _ _ _
  refine wpAny_bind (wpAny_holding (wpAny_call (excClassGet X LT T ?_)))
  exact wpAny_pure hq
theorem excClassAttr {Q : Option Value → Shared → Prop} (X : K.In s.heap) (LT : Looks (model prog w) s.heap (typeOf (.ref x)) (.ref C)) (T : ExcA K C) (h : Q (some (.ref C)) { s with toks := s.toks + 1 }) :
    wpAny (model prog w) A (getAttr? (.ref x) "__class__") Q E s := by
  have lg := looks_findIn (M := model prog w) X T.ga
  have lx := looks_findIn (M := model prog w) X T.gx
  obtain ⟨hh, gg, dd, tt, oo⟩ := s
  have bd := F.attr_ValueError.ga.bind (.ref x)
  unfold getAttr? getAttrBy?
  unfold getAttrBy
  refine wpAny_bind (wpAny_mkText (wpAny_bind (wpAny_attempt (wpAny_holding ?_))))
  refine wpAny_bind (LT.at (wpAny_bind (lg.at ?_)))
  show wpAny _ _ (getAttrByItsOwn (.ref x) _ (.ref C) (.builtin "BaseException.__getattribute__") false false) _ _ _
  unfold getAttrByItsOwn
  show wpAny _ _ (typeLookup (.ref C) "__getattr__" >>= _) _ _ _
  refine wpAny_bind (lx.at ?_)
  refine wpAny_bind (wpAny_attempt (wpAny_holding ?_))
  show wpAny _ _ (boundAndCalled (.builtin "BaseException.__getattribute__") (.ref x) _) _ _ _
  unfold boundAndCalled
  rw [bd]
  refine wpAny_bind (wpAny_pure ?_)
  refine wpAny_call (codeAny_call_builtin F.attr_ValueError.ga.plain F.entry_bexc_ga (excCheckGa X LT T (excGetEntry X LT T ?_)))
  refine wpAny_pure ?_
  exact wpAny_pure h
theorem kitx_exc {K : Frag} {x C : Addr} (T : ExcA K C) : KitX K (.ref x) (.ref C) (fun h => ∃ o vs, h.get? x = some o ∧ o.cls = .ref C ∧ o.data = .fields vs) where
  ty := fun M h _ p => by
    obtain ⟨o, vs, e1, e2, _⟩ := p
    exact e2 ▸ (Looks.ld e1).andThen .now
  it := fun M h X _ => by
    have c := T.cl
    unfold clsIn at c
    split at c
    · rename_i c' d' cd' sl' ho
      intro A' Q' E' s' k q
      unfold isType
      unfold loadHead
      exact wpAny_bind (wpAny_loadPart (k _ _ (X _ _ ho)) (wpAny_pure q))
    · cases c
  ne := fun h tp dd its n sl X htp => by
    refine Bool.eq_false_iff.mpr fun q => ?_
    have e : C = tp := Value.ref.inj (beq_iff_eq.mp q)
    subst e
    have c := T.cl
    unfold clsIn at c
    split at c
    · rename_i c' d' cd' sl' ho
      have z := (X _ _ ho).symm.trans htp
      cases z
    · cases c
  ca := fun {prog w A E Q s} X p k => by
    obtain ⟨o, vs, e1, e2, _⟩ := p
    exact excClassAttr X (e2 ▸ (Looks.ld e1).andThen .now) T k
end

theorem vals_refsX : ∀ {ds : List Addr} {cs : List Value}, Vals (ds.map V.ref) cs → cs = ds.map Value.ref
  | [], _, .nil => rfl
  | d :: ds, _, .cons r t => by
    have e := vals_refsX (ds := ds) t
    have r : _ = Value.ref d := r
    rw [r, e]; rfl
/-- isinstance(error, C), isinstance(error, (C, D)) -/
def rIsi (K : Frag) : List V → Hp → VK → Prop := fun vs H Q => ∃ a C b, H a = some (excO a C) ∧ ExcA K C ∧ Q (.bl b) H ∧
  ((∃ D, vs = [.ref a, .ref D] ∧ kitOne K (.ref C) (.ref D) = some b) ∨ (∃ T, vs = [.ref a, .ty T] ∧ kitOne K (.ref C) (.type T) = some b) ∨
   ∃ (t : Addr) (ds : List Addr), vs = [.ref a, .ref t] ∧ H t = some (.tup (ds.map V.ref)) ∧ kitAny K (.ref C) (ds.map Value.ref) = some b)
theorem call_isi {X : Cx} : CallR X (.builtin "isinstance") (rIsi X.K) := by
  intro pins s σ H vs us Q I r h
  obtain ⟨a, C, b, ha, T, q, h⟩ := h
  obtain ⟨φ, _, _⟩ := (show ObjOk X.prog X.w H s.heap a (excO a C) from I.hok a _ ha)
  have fin : ∀ tk, EP X pins σ Q (.bool b) { s with toks := tk } := fun tk => ⟨.bl b, H, I.tok tk, rfl, q⟩
  rcases h with ⟨D, rfl, e⟩ | ⟨T', rfl, e⟩ | ⟨t, ds, rfl, et, e⟩
  · obtain ⟨u, v, rfl, r1, r2⟩ := vals2 r
    cases (show u = Value.ref a from r1)
    cases (show v = Value.ref D from r2)
    exact kia_one (kitx_exc T) I.kIn φ e (fun z => nomatch z) fin
  · obtain ⟨u, v, rfl, r1, r2⟩ := vals2 r
    cases (show u = Value.ref a from r1)
    cases (show v = Value.type T' from r2)
    exact kia_one (kitx_exc T) I.kIn φ e (fun z => nomatch z) fin
  · obtain ⟨u, v, rfl, r1, r2⟩ := vals2 r
    cases (show u = Value.ref a from r1)
    cases (show v = Value.ref t from r2)
    obtain ⟨_, its, rv, o, h1, h2, n, h3⟩ := (show ObjOk X.prog X.w H s.heap t (.tup (ds.map V.ref)) from I.hok t _ et)
    obtain rfl := vals_refsX rv
    obtain ⟨oc, od, oda, osl⟩ := o
    dsimp only at h2 h3
    subst h2 h3
    exact kia_tup (kitx_exc T) I.kIn φ h1 e (fun z => nomatch z) fin
end L2

/-! ### == and in, where the items are tuples of ints -/
namespace Sx
open PySem PySem.W PyProof.Rows
theorem ints_fun : ∀ {vs : List Value} {a b : List Int}, IntsAre vs a → IntsAre vs b → a = b
  | _, _, _, .nil, .nil => rfl
  | _, _, _, .cons n t h, .cons _ _ h' => by rw [ints_fun h h']
theorem ints_at : ∀ {vs : List Value} {ns : List Int} {i : Nat} {v : Value}, IntsAre vs ns → vs[i]? = some v → ∃ t, v = .int (ns.getD i 0) t
  | _, _, _, _, .nil, e => by simp at e
  | _, _, 0, _, .cons n t _, e => by simp at e; subst e; exact ⟨t, rfl⟩
  | _, _, i + 1, v, .cons n t h, e => by
    obtain ⟨t', e'⟩ := ints_at (i := i) (v := v) h (by simpa using e)
    exact ⟨t', by simpa using e'⟩
theorem all_eq : ∀ (t u : List Int), ((List.range (min t.length u.length)).all (fun j => t.getD j 0 == u.getD j 0) && t.length == u.length) = decide (t = u) := by
  intro t u
  rw [Bool.eq_iff_iff, Bool.and_eq_true, List.all_eq_true, beq_iff_eq, decide_eq_true_iff]
  constructor
  · rintro ⟨h1, h2⟩
    apply List.ext_getElem h2
    intro i hi hj
    have := h1 i (List.mem_range.mpr (by omega))
    simpa [hi, hj] using this
  · rintro rfl
    exact ⟨fun i _ => by simp, rfl⟩
theorem eqAt_tups {A : Around} {s : Shared} {a b : Addr} {t u : List Int} (ha : TupI s.heap a t) (hb : TupI s.heap b u) (hu : A.units < cLine) : SeqAt.EqAt A s (.ref a) (.ref b) (decide (t = u)) := by
  obtain ⟨oa, ia, na, ea, ca, da, pa⟩ := ha
  obtain ⟨ob, ib, nb, eb, cb, db, pb⟩ := hb
  by_cases e : a = b
  · subst e
    rw [ea] at eb
    cases eb
    rw [da] at db
    injection db with d1 _
    subst d1
    have := ints_fun pa pb
    subst this
    rw [decide_eq_true rfl]
    exact SeqAt.EqAt.same _
  · have la : ia.size = t.length := by rw [← pa.length, Array.length_toList]
    have lb : ib.size = u.length := by rw [← pb.length, Array.length_toList]
    have := SeqAt.RcAt.tuples (A := A) (s := s) (l := a) (b := b) (items := ia) (items2 := ib) (e := fun j => t.getD j 0 == u.getD j 0) ⟨oa, ea, ca, na, da⟩ ⟨ob, eb, cb, nb, db⟩ hu fun j h1 h2 => by
      obtain ⟨t1, e1⟩ := ints_at (i := j) (v := ia[j]) pa (by simp [h1])
      obtain ⟨t2, e2⟩ := ints_at (i := j) (v := ib[j]) pb (by simp [h2])
      rw [e1, e2]
      exact SeqAt.EqAt.int_int _ _ _ _
    rw [la, lb, all_eq] at this
    exact SeqAt.EqAt.of_refs e this
end Sx
namespace L2
open PySem PySem.Spec PyProof.Rows
theorem ints_inj : ∀ {a b : List Int}, a.map V.int = b.map V.int → a = b
  | [], [], _ => rfl
  | [], _ :: _, e => by simp at e
  | _ :: _, [], e => by simp at e
  | x :: xs, y :: ys, e => by
    rw [List.map_cons, List.map_cons] at e
    injection e with e1 e2
    injection e1 with e1
    rw [e1, ints_inj e2]
section
variable {X : Cx}
open Classical in
/-- does the tuple t stand there -/
noncomputable def isT (H : Hp) (t : List Int) : Value → Bool
  | .ref r => decide (H r = some (.tup (t.map V.int)))
  | _ => false
theorem isT_ref {H : Hp} {t u : List Int} {r : Addr} (h : H r = some (.tup (u.map V.int))) : isT H t (.ref r) = decide (u = t) := by
  classical
  unfold isT
  rw [Bool.eq_iff_iff, decide_eq_true_iff, decide_eq_true_iff, h]
  constructor
  · intro e
    injection e with e
    injection e with e
    exact ints_inj e
  · rintro rfl; rfl
theorem any_isT {H : Hp} {t : List Int} : ∀ {rs : List Addr} {ts : List (List Int)}, TupsH H rs ts → (rs.map Value.ref).any (isT H t) = ts.any (fun u => decide (u = t))
  | _, _, .nil => rfl
  | _, _, .cons h r => by rw [List.map_cons, List.any_cons, List.any_cons, isT_ref h.1, any_isT r]
/-- (a, b) not in xs, all tuples of ints -/
theorem op_notInT (hu : X.A.units + 1 < cLine) : OpR X (compareOp .NotIn) (fun x y H Q => ∃ b t p rs ts, x = .ref b ∧ H b = some (.tup (t.map V.int)) ∧ y = .ref p ∧ SqL X.K H p (rs.map V.ref) ∧ TupsH H rs ts ∧ Q (.bl (!ts.any fun u => decide (u = t))) H) := by
  intro pins s σ H x y v u Q I rx ry h
  obtain ⟨b, t, p, rs, ts, rfl, hb, rfl, hq, hp, q⟩ := h
  cases rx
  cases ry
  obtain ⟨its, rv, pl, hz⟩ := I.list hq
  have ei := refs_of rv
  subst ei
  refine SeqAt.notIn_listAt (isT H t) pl.isList (fun v hv => ?_) ⟨.bl _, H, I, rfl, ?_⟩
  · have hv' : v ∈ rs.map Value.ref := by simpa using hv
    obtain ⟨r, hr, rfl⟩ := List.mem_map.mp hv'
    obtain ⟨i, hi, e⟩ := List.getElem_of_mem hr
    obtain ⟨t', _, ht, _⟩ := Sx.pair_at (i := i) (a := r) hp (by rw [← e]; simp [hi])
    rw [isT_ref ht]
    exact Sx.eqAt_tups (I.tupI ht) (I.tupI hb) hu
  · rw [show (rs.map Value.ref).toArray.any (isT H t) = (rs.map Value.ref).any (isT H t) by simp, any_isT hp]
    exact q
theorem op_inT (hu : X.A.units + 1 < cLine) : OpR X (compareOp .In) (fun x y H Q => ∃ b t p rs ts, x = .ref b ∧ H b = some (.tup (t.map V.int)) ∧ y = .ref p ∧ SqL X.K H p (rs.map V.ref) ∧ TupsH H rs ts ∧ Q (.bl (ts.any fun u => decide (u = t))) H) := by
  intro pins s σ H x y v u Q I rx ry h
  obtain ⟨b, t, p, rs, ts, rfl, hb, rfl, hq, hp, q⟩ := h
  cases rx
  cases ry
  obtain ⟨its, rv, pl, hz⟩ := I.list hq
  have ei := refs_of rv
  subst ei
  refine SeqAt.in_listAt (isT H t) pl.isList (fun v hv => ?_) ⟨.bl _, H, I, rfl, ?_⟩
  · have hv' : v ∈ rs.map Value.ref := by simpa using hv
    obtain ⟨r, hr, rfl⟩ := List.mem_map.mp hv'
    obtain ⟨i, hi, e⟩ := List.getElem_of_mem hr
    obtain ⟨t', _, ht, _⟩ := Sx.pair_at (i := i) (a := r) hp (by rw [← e]; simp [hi])
    rw [isT_ref ht]
    exact Sx.eqAt_tups (I.tupI ht) (I.tupI hb) hu
  · rw [show (rs.map Value.ref).toArray.any (isT H t) = (rs.map Value.ref).any (isT H t) by simp, any_isT hp]
    exact q
theorem all_eqL : ∀ (ts us : List (List Int)), ts.length = us.length → (List.range ts.length).all (fun j => decide (ts.getD j [] = us.getD j [])) = decide (ts = us) := by
  intro ts us hl
  rw [Bool.eq_iff_iff, List.all_eq_true, decide_eq_true_iff]
  constructor
  · intro h1
    apply List.ext_getElem hl
    intro i hi hj
    have := h1 i (List.mem_range.mpr hi)
    simpa [hi, hj] using this
  · rintro rfl
    exact fun i _ => by simp
/-- two lists of tuples of ints compared -/
theorem op_eqLT (hu : X.A.units + 1 < cLine) : OpR X (compareOp .Eq) (fun x y H Q => ∃ a b rs qs ts us, x = .ref a ∧ y = .ref b ∧ SqL X.K H a (rs.map V.ref) ∧ SqL X.K H b (qs.map V.ref) ∧ TupsH H rs ts ∧ TupsH H qs us ∧ Q (.bl (decide (ts = us))) H) := by
  intro pins s σ H x y v u Q I rx ry h
  obtain ⟨a, b, rs, qs, ts, us, rfl, rfl, ha, hb, hp, hq, q⟩ := h
  cases rx
  cases ry
  obtain ⟨ia, ra, pa, _⟩ := I.list ha
  obtain ⟨ib, rb, pb, _⟩ := I.list hb
  have ea := refs_of ra
  have eb := refs_of rb
  subst ea
  subst eb
  have l1 := Paired.length hp
  have l2 := Paired.length hq
  have hu' : X.A.units < cLine := by omega
  by_cases hl : rs.length = qs.length
  · refine SeqAt.eq_listAt (e := fun j => decide (ts.getD j [] = us.getD j [])) pa.isList pb.isList (by simp [hl]) hu' (fun j h1 h2 => ?_) ?_
    · have h1' : j < rs.length := by simpa using h1
      have h2' : j < qs.length := by simpa using h2
      obtain ⟨t, et, ht, _⟩ := Sx.pair_at (i := j) (a := rs[j]) hp (by simp [h1'])
      obtain ⟨t', et', ht', _⟩ := Sx.pair_at (i := j) (a := qs[j]) hq (by simp [h2'])
      have e1 : ts.getD j [] = t := by simp [et]
      have e2 : us.getD j [] = t' := by simp [et']
      rw [e1, e2]
      simp only [List.getElem_toArray, List.getElem_map]
      exact Sx.eqAt_tups (I.tupI ht) (I.tupI ht') hu
    · rw [show (rs.map Value.ref).toArray.size = ts.length by simp [l1], all_eqL ts us (by omega)]
      exact ⟨.bl _, H, I, rfl, q⟩
  · refine SeqAt.eq_list_lengthsAt pa.isList pb.isList (by simpa using hl) hu' ⟨.bl false, H, I, rfl, ?_⟩
    rw [show decide (ts = us) = false from decide_eq_false (fun e => hl (by rw [l1, l2, e]))] at q
    exact q
end
end L2

/-! ### turns of a comprehension, lists side by side -/
namespace L2
open PySem PySem.Spec PyProof.Rows
theorem yes_of {σ : St} {H : Hp} {A B : Hp → Prop} (h : A H) : tYes σ H fun c H5 => if c = true then A H5 else B H5 := by
  show if true = true then A H else B H
  rw [if_pos rfl]
  exact h
/-- the next turn of a comprehension of n turns -/
def Nxt (n i : Nat) (Pv : Nat → List V → St → Hp → Prop) (ys : List V) (σ : St) (H : Hp) : Prop := ∃ m', m' < n - i ∧ m' = n - (i + 1) ∧ i + 1 ≤ n ∧ Pv (i + 1) ys σ H
theorem Nxt.mk {n i : Nat} {Pv : Nat → List V → St → Hp → Prop} {ys : List V} {σ : St} {H : Hp} (hi : i < n) (h : Pv (i + 1) ys σ H) : Nxt n i Pv ys σ H := ⟨n - (i + 1), by omega, rfl, hi, h⟩
theorem turns_list {K : PySem.W.Frag} {a D : Addr} {xs : List V} {g : TG} {tt : TT} {te : TE} {σ0 : St} {Qd : Hp → Prop} {H1 : Hp} (Pv : Nat → List V → St → Hp → Prop) (h0 : Pv 0 [] σ0 (upd H1 D (.lst [])))
    (hD : ∀ i ys σ H, Pv i ys σ H → H D = some (.lst ys) ∧ ys.length < sizeLine ∧ SqL K H a xs)
    (hs : ∀ i x ys σ H, xs[i]? = some x → Pv i ys σ H → g x σ H fun σ2 H4 => tt σ2 H4 fun c H5 => if c = true then te σ2 H5 fun y H6 => H6 D = some (.lst ys) ∧ Nxt xs.length i Pv (ys ++ [y]) σ2 (upd H6 D (.lst (ys ++ [y]))) else Nxt xs.length i Pv ys σ2 H5)
    (hd : ∀ ys σ H, Pv xs.length ys σ H → Qd H) : tTurns (Itl K a) g tt te σ0 D Qd H1 := by
  refine ⟨fun i m ys σ H => m = xs.length - i ∧ i ≤ xs.length ∧ Pv i ys σ H, ⟨xs.length, by simp, Nat.zero_le _, h0⟩, ?_⟩
  rintro i m ys σ H ⟨rfl, hi, p⟩
  obtain ⟨d1, d2, d3⟩ := hD i ys σ H p
  refine ⟨d1, ?_⟩
  by_cases hlt : i < xs.length
  · refine .inr ⟨⟨xs, xs[i], d3, by simp [hlt]⟩, d2, fun x H3 y => ?_⟩
    obtain ⟨e, y⟩ := y
    subst e
    exact hs i x ys σ _ (y xs d3) p
  · have e : i = xs.length := by omega
    subst e
    exact .inl ⟨⟨xs, d3, Nat.le_refl _⟩, hd ys σ H p⟩
theorem turns_range {lo : Int} {n : Nat} {D : Addr} {g : TG} {tt : TT} {te : TE} {σ0 : St} {Qd : Hp → Prop} {H1 : Hp} (Pv : Nat → List V → St → Hp → Prop) (h0 : Pv 0 [] σ0 (upd H1 D (.lst [])))
    (hD : ∀ i ys σ H, Pv i ys σ H → H D = some (.lst ys) ∧ ys.length < sizeLine)
    (hs : ∀ i ys σ H, i < n → Pv i ys σ H → g (.int (lo + i)) σ H fun σ2 H4 => tt σ2 H4 fun c H5 => if c = true then te σ2 H5 fun y H6 => H6 D = some (.lst ys) ∧ Nxt n i Pv (ys ++ [y]) σ2 (upd H6 D (.lst (ys ++ [y]))) else Nxt n i Pv ys σ2 H5)
    (hd : ∀ ys σ H, Pv n ys σ H → Qd H) : tTurns (Itr lo n) g tt te σ0 D Qd H1 := by
  refine ⟨fun i m ys σ H => m = n - i ∧ i ≤ n ∧ Pv i ys σ H, ⟨n, by simp, Nat.zero_le _, h0⟩, ?_⟩
  rintro i m ys σ H ⟨rfl, hi, p⟩
  obtain ⟨d1, d2⟩ := hD i ys σ H p
  refine ⟨d1, ?_⟩
  by_cases hlt : i < n
  · refine .inr ⟨hlt, d2, fun x H3 y => ?_⟩
    obtain ⟨e, y⟩ := y
    subst e y
    exact hs i ys σ _ hlt p
  · have e : i = n := by omega
    subst e
    exact .inl ⟨Nat.le_refl _, hd ys σ H p⟩
theorem paired_zip {α β : Type} {F : α → β → Prop} : ∀ {l : List α} {m : List β}, Paired F l m → ∀ p ∈ l.zip m, F p.1 p.2
  | _, _, .nil, p, hp => by simp at hp
  | _, _, .cons h t, p, hp => by
    rcases List.mem_cons.mp hp with rfl | hp
    · exact h
    · exact paired_zip t p hp
theorem zip_paired {α β : Type} {F : α → β → Prop} : ∀ {l : List α} {m : List β}, l.length = m.length → (∀ p ∈ l.zip m, F p.1 p.2) → Paired F l m
  | [], [], _, _ => .nil
  | [], _ :: _, e, _ => by simp at e
  | _ :: _, [], e, _ => by simp at e
  | a :: l, b :: m, e, h => .cons (h (a, b) (.head _)) (zip_paired (by simpa using e) fun p hp => h p (.tail _ hp))
theorem TupsH.sorted {H : Hp} {rs rs' : List Addr} {ts ts' : List (List Int)} (h : TupsH H rs ts) (S : Sx.Sorted rs ts rs' ts') : TupsH H rs' ts' ∧ ts'.Perm ts ∧ rs'.length = rs.length := by
  have l1 := Paired.length h
  have e := S.perm.length_eq
  rw [List.length_zip, List.length_zip] at e
  have e2 := S.len
  refine ⟨zip_paired S.len fun p hp => paired_zip h p (S.perm.mem_iff.mp hp), ?_, by omega⟩
  have q := S.perm.map (·.2)
  rw [List.map_snd_zip (by omega), List.map_snd_zip (by omega)] at q
  exact q
end L2
namespace L2
open PySem PySem.Spec PyProof.Rows
theorem paired_snoc {α β : Type} {F : α → β → Prop} : ∀ {l : List α} {m : List β} {a : α} {b : β}, Paired F l m → F a b → Paired F (l ++ [a]) (m ++ [b])
  | _, _, _, _, .nil, h => .cons h .nil
  | _, _, _, _, .cons q t, h => .cons q (paired_snoc t h)
end L2

/-! ### lists of bools -/
namespace L2
open PySem PySem.Spec PyProof.Rows
theorem vals_bls : ∀ {bs : List Bool} {us : List Value}, Vals (bs.map V.bl) us → us = bs.map Value.bool
  | [], _, h => by rw [List.map_nil] at h; cases h; rfl
  | b :: bs, _, h => by
    rw [List.map_cons] at h
    cases h with
    | cons h1 h2 => rw [vals_bls h2, List.map_cons]; cases h1; rfl
end L2

/-! ### more rules: isinstance of plain values, all, sorted of ints, == of lists of ints and of lists of such, insert -/
namespace Sx
open PySem PySem.W PyProof.Rows
theorem all_eqI (t u : List Int) (hl : t.length = u.length) : (List.range t.length).all (fun j => t.getD j 0 == u.getD j 0) = decide (t = u) := by
  rw [Bool.eq_iff_iff, List.all_eq_true, decide_eq_true_iff]
  constructor
  · intro h1
    apply List.ext_getElem hl
    intro i hi hj
    have := h1 i (List.mem_range.mpr hi)
    simpa [hi, hj] using this
  · rintro rfl
    exact fun i _ => by simp
/-- a list of ints lies there -/
def LstI (h : Heap) (a : Addr) (t : List Int) : Prop := ∃ its : Array Value, h.IsList a its ∧ IntsAre its.toList t
section
variable {A : Around} {s : Shared} {a b : Addr} {t u : List Int}
theorem rcAt_ints (ha : LstI s.heap a t) (hb : LstI s.heap b u) (hu : A.units < cLine) : SeqAt.RcAt A s (.ref a) (.ref b) (decide (t = u)) := by
  obtain ⟨ia, la, pa⟩ := ha
  obtain ⟨ib, lb, pb⟩ := hb
  have sa : ia.size = t.length := by rw [← pa.length, Array.length_toList]
  have sb : ib.size = u.length := by rw [← pb.length, Array.length_toList]
  by_cases hl : t.length = u.length
  · have := SeqAt.RcAt.lists (A := A) (e := fun j => t.getD j 0 == u.getD j 0) la lb (by omega) hu fun j h1 h2 => by
      obtain ⟨t1, e1⟩ := ints_at (i := j) (v := ia[j]) pa (by simp [h1])
      obtain ⟨t2, e2⟩ := ints_at (i := j) (v := ib[j]) pb (by simp [h2])
      rw [e1, e2]
      exact SeqAt.EqAt.int_int _ _ _ _
    rw [sa, all_eqI t u hl] at this
    exact this
  · have := SeqAt.RcAt.lists_lengths (A := A) la lb (by rw [sa, sb]; simpa using hl) hu
    rw [show decide (t = u) = false from decide_eq_false fun e => hl (by rw [e])]
    exact this
theorem rcNe_ints (ha : LstI s.heap a t) (hb : LstI s.heap b u) (hu : A.units < cLine) : SeqAt.RcNeAt A s (.ref a) (.ref b) (!decide (t = u)) := by
  obtain ⟨ia, la, pa⟩ := ha
  obtain ⟨ib, lb, pb⟩ := hb
  have sa : ia.size = t.length := by rw [← pa.length, Array.length_toList]
  have sb : ib.size = u.length := by rw [← pb.length, Array.length_toList]
  by_cases hl : t.length = u.length
  · have := SeqAt.RcNeAt.lists (A := A) (e := fun j => t.getD j 0 == u.getD j 0) la lb (by omega) hu fun j h1 h2 => by
      obtain ⟨t1, e1⟩ := ints_at (i := j) (v := ia[j]) pa (by simp [h1])
      obtain ⟨t2, e2⟩ := ints_at (i := j) (v := ib[j]) pb (by simp [h2])
      rw [e1, e2]
      exact SeqAt.EqAt.int_int _ _ _ _
    rw [sa, all_eqI t u hl] at this
    exact this
  · have := SeqAt.RcNeAt.lists_lengths (A := A) la lb (by rw [sa, sb]; simpa using hl) hu
    rw [show decide (t = u) = false from decide_eq_false fun e => hl (by rw [e])]
    exact this
theorem lstI_one (ha : LstI s.heap a t) (hb : LstI s.heap a u) : t = u := by
  obtain ⟨ia, ⟨o, e, _, n, d⟩, pa⟩ := ha
  obtain ⟨ib, ⟨o', e', _, n', d'⟩, pb⟩ := hb
  rw [e] at e'
  cases e'
  rw [d] at d'
  injection d' with d1 _
  subst d1
  exact ints_fun pa pb
theorem eqAt_ints (ha : LstI s.heap a t) (hb : LstI s.heap b u) (hu : A.units < cLine) : SeqAt.EqAt A s (.ref a) (.ref b) (decide (t = u)) := by
  by_cases e : a = b
  · subst e
    rw [decide_eq_true (lstI_one ha hb)]
    exact SeqAt.EqAt.same _
  · exact SeqAt.EqAt.of_refs e (rcAt_ints ha hb hu)
end
theorem intsAre_at : ∀ {vs : List Value} {t : List Int}, vs.length = t.length → (∀ (j : Nat) v, vs[j]? = some v → ∃ tk, v = .int (t.getD j 0) tk) → IntsAre vs t
  | [], [], _, _ => .nil
  | [], _ :: _, e, _ => by simp at e
  | _ :: _, [], e, _ => by simp at e
  | v :: vs, n :: t, e, h => by
    obtain ⟨tk, rfl⟩ := h 0 v rfl
    exact .cons n tk (intsAre_at (by simpa using e) fun j v hv => by simpa using h (j + 1) v (by simpa using hv))
end Sx
namespace L2
open PySem PySem.Spec PyProof.Rows
/-- lists of ints -/
abbrev LsH (H : Hp) (rs : List Addr) (ts : List (List Int)) : Prop := Paired (fun r t => H r = some (.lst (t.map V.int))) rs ts
section
variable {X : Cx} {pins : List (Addr × Obj)} {σ : St} {H : Hp} {s : Shared}
theorem Inv.lstI {a : Addr} {t : List Int} (I : Inv X pins σ H s) (hq : SqL X.K H a (t.map V.int)) : Sx.LstI s.heap a t := by
  obtain ⟨its, rv, pl, hz⟩ := I.list hq
  exact ⟨its.toArray, pl.isList, by simpa using intsAre_of rv⟩
theorem op_eqI (hu : X.A.units < cLine) : OpR X (compareOp .Eq) (fun x y H Q => ∃ (a b : Addr) (t u : List Int), x = .ref a ∧ y = .ref b ∧ SqL X.K H a (t.map V.int) ∧ SqL X.K H b (u.map V.int) ∧ Q (.bl (decide (t = u))) H) := by
  intro pins s σ H x y v u Q I rx ry h
  obtain ⟨a, b, t, w, rfl, rfl, ha, hb, q⟩ := h
  cases rx
  cases ry
  exact Sx.rcAt_ints (I.lstI ha) (I.lstI hb) hu X.prog X.w _ _ ⟨.bl _, H, I, rfl, q⟩
theorem op_neI (hu : X.A.units < cLine) : OpR X (compareOp .NotEq) (fun x y H Q => ∃ (a b : Addr) (t u : List Int), x = .ref a ∧ y = .ref b ∧ SqL X.K H a (t.map V.int) ∧ SqL X.K H b (u.map V.int) ∧ Q (.bl (!decide (t = u))) H) := by
  intro pins s σ H x y v u Q I rx ry h
  obtain ⟨a, b, t, w, rfl, rfl, ha, hb, q⟩ := h
  cases rx
  cases ry
  exact Sx.rcNe_ints (I.lstI ha) (I.lstI hb) hu X.prog X.w _ _ ⟨.bl _, H, I, rfl, q⟩
/-- two lists of lists of ints -/
theorem eqs_at (I : Inv X pins σ H s) {rs qs : List Addr} {ts us : List (List Int)} (hp : LsH H rs ts) (hq : LsH H qs us) (hu : X.A.units + 1 < cLine) (j : Nat) (h1 : j < (rs.map Value.ref).toArray.size) (h2 : j < (qs.map Value.ref).toArray.size) :
    SeqAt.EqAt X.A.in1 s (rs.map Value.ref).toArray[j] (qs.map Value.ref).toArray[j] (decide (ts.getD j [] = us.getD j [])) := by
  have h1' : j < rs.length := by simpa using h1
  have h2' : j < qs.length := by simpa using h2
  obtain ⟨t, et, ht⟩ := Sx.pair_at (i := j) (a := rs[j]) hp (by simp [h1'])
  obtain ⟨t', et', ht'⟩ := Sx.pair_at (i := j) (a := qs[j]) hq (by simp [h2'])
  have e1 : ts.getD j [] = t := by simp [et]
  have e2 : us.getD j [] = t' := by simp [et']
  rw [e1, e2]
  simp only [List.getElem_toArray, List.getElem_map]
  exact Sx.eqAt_ints (I.lstI (SqL.of ht)) (I.lstI (SqL.of ht')) hu
theorem op_eqLL (hu : X.A.units + 1 < cLine) : OpR X (compareOp .Eq) (fun x y H Q => ∃ (a b : Addr) (rs qs : List Addr) (ts us : List (List Int)), x = .ref a ∧ y = .ref b ∧ SqL X.K H a (rs.map V.ref) ∧ SqL X.K H b (qs.map V.ref) ∧ LsH H rs ts ∧ LsH H qs us ∧ Q (.bl (decide (ts = us))) H) := by
  intro pins s σ H x y v u Q I rx ry h
  obtain ⟨a, b, rs, qs, ts, us, rfl, rfl, ha, hb, hp, hq, q⟩ := h
  cases rx
  cases ry
  obtain ⟨ia, ra, pa, _⟩ := I.list ha
  obtain ⟨ib, rb, pb, _⟩ := I.list hb
  have ea := refs_of ra
  have eb := refs_of rb
  subst ea
  subst eb
  have l1 := Paired.length hp
  have l2 := Paired.length hq
  have hu' : X.A.units < cLine := by omega
  by_cases hl : rs.length = qs.length
  · refine SeqAt.eq_listAt (e := fun j => decide (ts.getD j [] = us.getD j [])) pa.isList pb.isList (by simp [hl]) hu' (fun j h1 h2 => eqs_at I hp hq hu j h1 h2) ?_
    rw [show (rs.map Value.ref).toArray.size = ts.length by simp [l1], all_eqL ts us (by omega)]
    exact ⟨.bl _, H, I, rfl, q⟩
  · refine SeqAt.eq_list_lengthsAt pa.isList pb.isList (by simpa using hl) hu' ⟨.bl false, H, I, rfl, ?_⟩
    rw [show decide (ts = us) = false from decide_eq_false (fun e => hl (by rw [l1, l2, e]))] at q
    exact q
theorem op_neLL (hu : X.A.units + 1 < cLine) : OpR X (compareOp .NotEq) (fun x y H Q => ∃ (a b : Addr) (rs qs : List Addr) (ts us : List (List Int)), x = .ref a ∧ y = .ref b ∧ SqL X.K H a (rs.map V.ref) ∧ SqL X.K H b (qs.map V.ref) ∧ LsH H rs ts ∧ LsH H qs us ∧ Q (.bl (!decide (ts = us))) H) := by
  intro pins s σ H x y v u Q I rx ry h
  obtain ⟨a, b, rs, qs, ts, us, rfl, rfl, ha, hb, hp, hq, q⟩ := h
  cases rx
  cases ry
  obtain ⟨ia, ra, pa, _⟩ := I.list ha
  obtain ⟨ib, rb, pb, _⟩ := I.list hb
  have ea := refs_of ra
  have eb := refs_of rb
  subst ea
  subst eb
  have l1 := Paired.length hp
  have l2 := Paired.length hq
  have hu' : X.A.units < cLine := by omega
  by_cases hl : rs.length = qs.length
  · have := SeqAt.RcNeAt.lists (A := X.A) (e := fun j => decide (ts.getD j [] = us.getD j [])) pa.isList pb.isList (by simp [hl]) hu' (fun j h1 h2 => eqs_at I hp hq hu j h1 h2)
    rw [show (rs.map Value.ref).toArray.size = ts.length by simp [l1], all_eqL ts us (by omega)] at this
    exact this X.prog X.w _ _ ⟨.bl _, H, I, rfl, q⟩
  · have := SeqAt.RcNeAt.lists_lengths (A := X.A) pa.isList pb.isList (by simpa using hl) hu'
    rw [show decide (ts = us) = false from decide_eq_false (fun e => hl (by rw [l1, l2, e]))] at q
    exact this X.prog X.w _ _ ⟨.bl _, H, I, rfl, q⟩
/-- isinstance(x, T), T a built-in kind -/
theorem call_isV : CallR X (.builtin "isinstance") (fun vs H Q => ∃ (x : V) (T : String) (t : Value) (b : Bool), vs = [x, .ty T] ∧ TyOf X.K H x t ∧ PySem.W.kitOne X.K t (.type T) = some b ∧ Q (.bl b) H) := by
  intro pins s σ H vs us Q I r h
  obtain ⟨x, T, t, b, rfl, ty, e, q⟩ := h
  obtain ⟨u, v, rfl, r1, r2⟩ := vals2 r
  cases (show v = Value.type T from r2)
  exact isinst_ok I r1 ty e fun tk => ⟨.bl b, H, I.tok tk, rfl, q⟩
theorem range_allB (bs : List Bool) : ((List.range bs.length).all fun i => (bs[i]?).getD true) = bs.all id := by
  rw [Bool.eq_iff_iff, List.all_eq_true, List.all_eq_true]
  constructor
  · intro h b hb
    obtain ⟨i, hi, rfl⟩ := List.getElem_of_mem hb
    have := h i (List.mem_range.mpr hi)
    simpa [hi] using this
  · intro h i hi
    have hi' := List.mem_range.mp hi
    simpa [hi'] using h bs[i] (List.getElem_mem hi')
/-- all(xs), bools -/
theorem call_allB (hc : X.calm = true) : CallR X (.builtin "all") (fun vs H Q => ∃ (a : Addr) (bs : List Bool), vs = [.ref a] ∧ SqL X.K H a (bs.map V.bl) ∧ Q (.bl (bs.all id)) H) := by
  intro pins s σ H vs us Q I r h
  obtain ⟨a, bs, rfl, hq, q⟩ := h
  obtain ⟨u, rfl, ru⟩ := vals1 r
  cases ru
  obtain ⟨its, rv, pl, hz⟩ := I.list hq
  have ei := vals_bls rv
  subst ei
  have hl := pl.isList
  have hlt : a < s.heap.objs.size := by obtain ⟨_, e, _⟩ := hl; exact Heap.lt_size e
  refine PySem.call_all_walk (wpAny_pyIter_list hl ?_)
  refine ⟨s.heap.objs.size, [s.heap.objs.size, a], [s.heap.objs.size], (bs.map Value.bool).toArray.size, _, _, fun i => (bs[i]?).getD true, rfl, Walks.list (A := X.A.in1) (I.ok.hd hc) _ a (Nat.ne_of_lt hlt) (bs.map Value.bool).toArray,
    ⟨⟨_, Heap.get?_push_size _ rfl, rfl, rfl⟩, hl.push _⟩, fun i v s' Q' E' hP hQ => ?_, fun h' tk hk => ?_⟩
  · have hP : (bs.map Value.bool)[i]? = some v := by simpa using hP
    rw [List.getElem?_map] at hP
    cases e : bs[i]? with
    | none => rw [e] at hP; cases hP
    | some b =>
      rw [e] at hP
      cases hP
      simp only [e, Option.getD_some] at hQ
      exact wpAny_truthy_bool hQ
  · have e : ((List.range (bs.map Value.bool).toArray.size).all fun i => (bs[i]?).getD true) = bs.all id := by
      rw [List.size_toArray, List.length_map]; exact range_allB bs
    rw [e]
    exact ⟨.bl _, H, I.kept fun b x z => hk b x (fun hm => by rw [List.mem_singleton.mp hm] at z; exact Nat.lt_irrefl _ (Heap.lt_size z)) (Heap.get?_push_of_some _ z), rfl, q⟩
/-- sorted(xs), ints -/
theorem call_sortedI : CallR X (.builtin "sorted") (fun xs H Q => ∃ (a : Addr) (t : List Int), xs = [.ref a] ∧ SqL X.K H a (t.map V.int) ∧ t.length < 64 ∧ ∀ (t' : List Int) (p : Addr), t'.Perm t → t'.Pairwise (· ≤ ·) → H p = none → Q (.ref p) (upd H p (.lst (t'.map V.int)))) := by
  intro pins s σ H xs us Q I r h
  obtain ⟨a, t, rfl, hq, h64, q⟩ := h
  obtain ⟨u, rfl, ru⟩ := vals1 r
  cases ru
  obtain ⟨its, rv, pl, hz⟩ := I.list hq
  have hi := intsAre_of rv
  have hl : its.length = t.length := hi.length
  refine sorted_ints pl.isList hi (by omega) fun out ns' a1 a2 a3 => ?_
  obtain ⟨e, he⟩ := sortedAll_at s.heap its out
  have hfr : H (s.heap.objs.size + 1) = none := I.hok.fresh (Nat.le_succ _)
  have hln := a2.length_eq
  refine ⟨.ref (s.heap.objs.size + 1), _, I.laid (a := s.heap.objs.size + 1) (o := .lst (ns'.map V.int)) (t' := s.toks) (fun b o z => sortedAll_old z) (Nat.le_succ _) ⟨by rw [List.length_map, sizeLine_eq]; omega, out.toList, e, vals_ints a1, he⟩, rfl, q ns' _ a2 a3 hfr⟩
/-- sorted(d), the keys ints -/
theorem call_sortedDI (hc : X.calm = true) : CallR X (.builtin "sorted") (fun xs H Q => ∃ (a : Addr) (kvs : List (Key × V)) (t : List Int), xs = [.ref a] ∧ H a = some (.dK kvs) ∧ kvs.map (·.1) = t.map Sum.inl ∧ t.length < 64 ∧
    ∀ (t' : List Int) (p : Addr), t'.Perm t → t'.Pairwise (· ≤ ·) → H p = none → Q (.ref p) (upd H p (.lst (t'.map V.int)))) := by
  intro pins s σ H xs us Q I r h
  obtain ⟨a, kvs, t, rfl, ha, hk, h64, q⟩ := h
  obtain ⟨u, rfl, ru⟩ := vals1 r
  cases ru
  obtain ⟨z, lo, vs, rel, dd⟩ := dk_of I.hok ha
  obtain ⟨ep, hat⟩ := dd.dictAt
  have l1 : kvs.length = vs.length := Paired.length rel
  have l2 : kvs.length = t.length := by have := congrArg List.length hk; simpa using this
  refine Calls.call_function_entry kind_sorted plain_sorted entry_sorted (args_sorted1 _) ?_
  unfold Builtin.«sorted»
  refine wpAny_bind (m := checkCount "sorted" 1 1 _) (wpAny_pure (wpAny_bind (PySem.W.kdu_collect (A := X.A.in1) (PySem.W.kdl_dict lo) (I.ok.hd hc) hat (by omega) fun h' tk acc hkp hacc => ?_)))
  have hsz : acc.toList.length = t.length := by rw [Array.length_toList, hacc.1]; omega
  have hi : IntsAre acc.toList t := Sx.intsAre_at hsz fun j v hv => by
    obtain ⟨k, x, e1, e2⟩ := hacc.2 j v (by simpa using hv)
    have hj : j < kvs.length := by have := (List.getElem?_eq_some_iff.mp e1).1; omega
    obtain ⟨p, ep', hp, _⟩ := Sx.pair_at (i := j) (a := kvs[j]) rel (by simp [hj])
    rw [e1] at ep'
    cases ep'
    have e3 : (kvs.map (·.1))[j]? = some k := by rw [List.getElem?_map, List.getElem?_eq_getElem hj]; exact congrArg some hp
    rw [hk, List.getElem?_map] at e3
    cases e4 : t[j]? with
    | none => rw [e4] at e3; cases e3
    | some n =>
      rw [e4] at e3
      cases e3
      obtain ⟨tk', rfl⟩ := Value.isInt_shape (k := n) (v := v) e2
      exact ⟨tk', by simp [e4]⟩
  have I1 : Inv X pins σ H { s with heap := h', toks := tk } := I.kept hkp
  refine wpAny_bind (wpAny_newList ?_ (by rw [hsz, sizeLine_eq]; omega))
  have ho : (h'.push { cls := .type "list", data := .seq acc.toList.toArray }).get? h'.objs.size = some (seqObj "list" acc.toList.toArray 0) := Heap.get?_push_size _ rfl
  refine wpAny_bind (wpAny_holding (wpAny_call_entry slot_list_sort ⟨_, ho, rfl⟩ entry_list_sort (list_sort_tree (s := { s with heap := h'.push { cls := .type "list", data := .seq acc.toList.toArray }, toks := tk }) ho hi (by omega) fun out ns' a1 a2 a3 => ⟨_, rfl, ?_⟩) (args_list_sort _)))
  obtain ⟨e, he⟩ := sortedHeap_at (out := out) ho
  have hfr : H h'.objs.size = none := I1.hok.fresh (Nat.le_refl _)
  have hln := a2.length_eq
  refine wpAny_pure ⟨_, rfl, ⟨.ref h'.objs.size, _, I1.laid (a := h'.objs.size) (o := .lst (ns'.map V.int)) (t' := tk) (fun b o z => ?_) (Nat.le_refl _) ⟨by rw [List.length_map, sizeLine_eq]; omega, out.toList, e, vals_ints a1, he⟩, rfl, q ns' _ a2 a3 hfr⟩⟩
  have hlt := Heap.lt_size z
  exact (sortedHeap_old (Nat.ne_of_lt hlt) (by rw [size_push']; exact Nat.lt_succ_of_lt hlt)).trans (Heap.get?_push_of_some _ z)
theorem Vals.take' : ∀ {xs : List V} {us : List Value} (k : Nat), Vals xs us → Vals (xs.take k) (us.take k)
  | _, _, 0, _ => by rw [List.take_zero, List.take_zero]; exact .nil
  | _, _, _ + 1, .nil => .nil
  | _, _, k + 1, .cons r t => .cons r (Vals.take' k t)
theorem Vals.drop' : ∀ {xs : List V} {us : List Value} (k : Nat), Vals xs us → Vals (xs.drop k) (us.drop k)
  | _, _, 0, h => h
  | _, _, _ + 1, .nil => .nil
  | _, _, k + 1, .cons _ t => Vals.drop' k t
/-- xs.insert(i, y), i in bounds -/
theorem mt_insert : MtM X "list.insert" (fun x vs H Q => ∃ (l : Addr) (xs : List V) (i : Int) (y : V), x = .ref l ∧ vs = [.int i, y] ∧ H l = some (.lst xs) ∧ 0 ≤ i ∧ i ≤ xs.length ∧ xs.length < 1000 ∧ Q .non (upd H l (.lst (xs.take i.toNat ++ y :: xs.drop i.toNat)))) := by
  intro pins s σ H x vs v us Q I rx rv h
  obtain ⟨l, xs, i, y, rfl, rfl, hH, h0, h1, hz, q⟩ := h
  cases rx
  obtain ⟨u, w, rfl, ru, rw'⟩ := rv.two
  obtain ⟨t, rfl⟩ := ru
  obtain ⟨z, its, n, r, hl, e⟩ := I.lstM hH
  have hf : Builtin.List.listFitsIndex i = true := by
    unfold Builtin.List.listFitsIndex
    first | (simp; omega) | (rw [Bool.and_eq_true, decide_eq_true_iff, decide_eq_true_iff]; omega)
  refine call_meets PySem.F.slot_list_insert ⟨_, e, rfl⟩ PySem.F.entry_list_insert (PySem.F.args_list_insert_3 _ _ _) (PySem.AutoSeq1.list_insert_list_int_val_1 l its.toArray n i t w (by simp [hf]) (by rw [List.size_toArray]; omega)) ⟨e, ?_⟩
  refine ⟨.non, _, I.lset (its' := its.take i.toNat ++ w :: its.drop i.toNat) hH e ?_ ((Vals.take' _ r).append (.cons rw' (Vals.drop' _ r))) ?_, rfl, q⟩
  · have e1 : ¬ i < 0 := by omega
    have e2 : min i.toNat its.length = i.toNat := by omega
    simp only [e1, if_false, List.size_toArray, e2]
    apply Array.ext'
    simp
    exact List.take_of_length_le (by rw [List.length_drop]; exact Nat.le_refl _)
  · rw [List.length_append, List.length_cons, List.length_take, List.length_drop, sizeLine_eq]
    omega
end
/-- // by a positive divisor that is not longer than 9,000 bits -/
theorem op_fdivB {X : Cx} : OpR X (binaryOp .FloorDiv) (rI (fun _ j => 0 < j ∧ j.natAbs.log2 < 9000) fun i j => .int (i / j)) := opI fun i j _ _ _ _ _ hc q => by
  have h1 : (0 : Int) < j := hc.1
  exact floordiv_int (by omega) (by rw [Int.fdiv_eq_ediv_of_nonneg i (by omega)]; exact q) (.inl (PyProof.noPylong_of_log2 hc.2))
end L2

/-! ### k13: the mathematics: parts of a web -/
namespace G13
abbrev Tri := Int × Int × Int
/-- some tie has these two ends -/
def tied (T : List Tri) (x y : Int) : Prop := ∃ t ∈ T, (t.1 = x ∧ t.2.1 = y) ∨ (t.1 = y ∧ t.2.1 = x)
theorem tied_symm {T : List Tri} {x y : Int} (h : tied T x y) : tied T y x := by
  obtain ⟨t, ht, h⟩ := h
  exact ⟨t, ht, h.symm⟩
/-- a way from x along ties, none of its further points out -/
inductive Reach (T : List Tri) (O : List Int) (x : Int) : Int → Prop
  | refl : Reach T O x x
  | step {y z : Int} : Reach T O x y → tied T y z → z ∉ O → Reach T O x z
section
variable {T : List Tri} {O : List Int} {x y z m : Int}
theorem Reach.trans (h : Reach T O x y) (k : Reach T O y z) : Reach T O x z := by
  induction k with
  | refl => exact h
  | step _ t o ih => exact .step ih t o
theorem Reach.out (h : Reach T O x y) (hx : x ∉ O) : y ∉ O := by
  cases h with
  | refl => exact hx
  | step _ _ o => exact o
theorem Reach.symm (h : Reach T O x y) (hx : x ∉ O) : Reach T O y x := by
  induction h with
  | refl => exact .refl
  | step k t o ih => exact (Reach.step .refl (tied_symm t) (k.out hx)).trans ih
/-- the points -/
def pts (m : Int) : List Int := (List.range m.toNat).map fun (i : Nat) => (i : Int)
theorem mem_pts : y ∈ pts m ↔ 0 ≤ y ∧ y < m := by
  unfold pts
  rw [List.mem_map]
  constructor
  · rintro ⟨i, hi, rfl⟩
    have := List.mem_range.mp hi
    omega
  · rintro ⟨h0, h1⟩
    exact ⟨y.toNat, List.mem_range.mpr (by omega), by omega⟩
theorem pts_lt : (pts m).Pairwise (· < ·) := by
  unfold pts
  rw [List.pairwise_map]
  exact List.pairwise_lt_range.imp fun h => by omega
theorem pts_len : (pts m).length = m.toNat := by simp [pts]
open Classical in
/-- the part of a point -/
noncomputable def comp (m : Int) (T : List Tri) (O : List Int) (x : Int) : List Int := (pts m).filter fun y => decide (Reach T O x y)
open Classical in
theorem mem_comp : y ∈ comp m T O x ↔ (0 ≤ y ∧ y < m) ∧ Reach T O x y := by
  unfold comp
  rw [List.mem_filter, mem_pts, decide_eq_true_iff]
theorem comp_lt : (comp m T O x).Pairwise (· < ·) := pts_lt.sublist List.filter_sublist
theorem comp_len : (comp m T O x).length ≤ m.toNat := by
  have := (List.filter_sublist (l := pts m) (p := fun y => @decide (Reach T O x y) (Classical.propDecidable _))).length_le
  rw [pts_len] at this
  exact this
theorem nodup_of_lt {l : List Int} (h : l.Pairwise (· < ·)) : l.Nodup := h.imp fun h => by omega
/-- the first point of its part -/
def first (T : List Tri) (O : List Int) (x : Int) : Prop := x ∉ O ∧ ∀ y, 0 ≤ y → y < x → y ∉ O → ¬ Reach T O y x
theorem exists_first : ∀ (n : Nat) (y : Int), y.toNat = n → 0 ≤ y → y ∉ O → ∃ x, 0 ≤ x ∧ x ≤ y ∧ first T O x ∧ Reach T O x y := by
  intro n
  induction n using Nat.strongRecOn with
  | _ n ih =>
    intro y hn h0 ho
    by_cases f : first T O y
    · exact ⟨y, h0, Int.le_refl _, f, .refl⟩
    · have : ∃ z, 0 ≤ z ∧ z < y ∧ z ∉ O ∧ Reach T O z y := by
        apply Classical.byContradiction
        intro q
        exact f ⟨ho, fun z z0 zy zo r => q ⟨z, z0, zy, zo, r⟩⟩
      obtain ⟨z, z0, zy, zo, r⟩ := this
      obtain ⟨x, x0, xz, fx, rx⟩ := ih z.toNat (by omega) z rfl z0 zo
      exact ⟨x, x0, by omega, fx, rx.trans r⟩
/-- what has been met ahead of point i -/
def met (m : Int) (T : List Tri) (O : List Int) (i : Int) (y : Int) : Prop := y ∈ O ∨ ∃ x, 0 ≤ x ∧ x < i ∧ first T O x ∧ y ∈ comp m T O x
theorem met_iff {i : Int} (h0 : 0 ≤ i) (hi : i < m) : ¬ met m T O i i ↔ first T O i := by
  constructor
  · intro h
    refine ⟨fun o => h (.inl o), fun y y0 yi yo r => ?_⟩
    obtain ⟨x, x0, xy, fx, rx⟩ := exists_first (T := T) (O := O) y.toNat y rfl y0 yo
    exact h (.inr ⟨x, x0, by omega, fx, mem_comp.mpr ⟨⟨h0, hi⟩, rx.trans r⟩⟩)
  · rintro ⟨f1, f2⟩ (o | ⟨x, x0, xi, fx, c⟩)
    · exact f1 o
    · exact f2 x x0 xi fx.1 (mem_comp.mp c).2
theorem met_zero {y : Int} : met m T O 0 y ↔ y ∈ O := ⟨fun h => h.elim id fun ⟨x, x0, xi, _⟩ => by omega, .inl⟩
theorem met_succ {i y : Int} (h0 : 0 ≤ i) : met m T O (i + 1) y ↔ met m T O i y ∨ (first T O i ∧ y ∈ comp m T O i) := by
  unfold met
  constructor
  · rintro (o | ⟨x, x0, xi, fx, c⟩)
    · exact .inl (.inl o)
    · by_cases e : x = i
      · subst e; exact .inr ⟨fx, c⟩
      · exact .inl (.inr ⟨x, x0, by omega, fx, c⟩)
  · rintro ((o | ⟨x, x0, xi, fx, c⟩) | ⟨f, c⟩)
    · exact .inl o
    · exact .inr ⟨x, x0, by omega, fx, c⟩
    · exact .inr ⟨i, h0, by omega, f, c⟩
def good (m : Int) (T : List Tri) : Prop := ∀ t ∈ T, 0 ≤ t.1 ∧ t.1 < m ∧ 0 ≤ t.2.1 ∧ t.2.1 < m
theorem good_tied (g : good m T) (h : tied T x y) : (0 ≤ x ∧ x < m) ∧ (0 ≤ y ∧ y < m) := by
  obtain ⟨t, ht, h⟩ := h
  have := g t ht
  rcases h with ⟨rfl, rfl⟩ | ⟨rfl, rfl⟩ <;> omega
theorem met_closed (g : good m T) {i : Int} (h : met m T O i x) (hx : x ∉ O) (t : tied T x y) (hy : y ∉ O) : met m T O i y := by
  rcases h with o | ⟨z, z0, zi, fz, c⟩
  · exact absurd o hx
  · exact .inr ⟨z, z0, zi, fz, mem_comp.mpr ⟨(good_tied g t).2, .step (mem_comp.mp c).2 t hy⟩⟩
/-- a closed list of reached points is the part -/
theorem part_is {M : Int → Prop} {p : List Int} (hO : ∀ y ∈ O, M y) (hc : ∀ x y, M x → x ∉ O → tied T x y → y ∉ O → M y) (hs : ¬ M x) (h1 : x ∈ p) (h2 : ∀ y ∈ p, (0 ≤ y ∧ y < m) ∧ Reach T O x y ∧ ¬ M y) (h3 : ∀ y ∈ p, ∀ z, tied T y z → M z ∨ z ∈ p) :
    ∀ y, y ∈ p ↔ y ∈ comp m T O x := by
  intro y
  rw [mem_comp]
  constructor
  · intro hy
    exact ⟨(h2 y hy).1, (h2 y hy).2.1⟩
  · rintro ⟨q, r⟩
    clear q
    induction r with
    | refl => exact h1
    | @step y z r t o ih =>
      rcases h3 y ih z t with q | q
      · exfalso
        exact (h2 y ih).2.2 (hc z y q o (tied_symm t) (fun k => (h2 y ih).2.2 (hO y k)))
      · exact q
theorem perm_sorted {R : Int → Int → Prop} (anti : ∀ a b, R a b → R b a → a = b) : ∀ {l m : List Int}, l.Perm m → l.Pairwise R → m.Pairwise R → l = m
  | [], m, h, _, _ => by rw [List.nil_perm.mp h]
  | a :: l, [], h, _, _ => by have := h.length_eq; simp at this
  | a :: l, b :: m, h, hl, hm => by
    rw [List.pairwise_cons] at hl hm
    have e : a = b := by
      have ha : a ∈ b :: m := h.mem_iff.mp (.head _)
      have hb : b ∈ a :: l := h.mem_iff.mpr (.head _)
      rcases List.mem_cons.mp ha with e | ha
      · exact e
      · rcases List.mem_cons.mp hb with e | hb
        · exact e.symm
        · exact anti a b (hl.1 b hb) (hm.1 a ha)
    subst e
    rw [perm_sorted anti (List.Perm.cons_inv h) hl.2 hm.2]
theorem perm_of {l k : List Int} (h1 : l.Nodup) (h2 : k.Nodup) (h : ∀ y, y ∈ l ↔ y ∈ k) : l.Perm k := (List.perm_ext_iff_of_nodup h1 h2).mpr h
/-- sorted, with the same points: the same list -/
theorem sorted_is {t p c : List Int} (ht : t.Perm p) (hs : t.Pairwise (· ≤ ·)) (hp : p.Nodup) (hc : c.Pairwise (· < ·)) (h : ∀ y, y ∈ p ↔ y ∈ c) : t = c :=
  perm_sorted (fun a b h1 h2 => by omega) (ht.trans (perm_of hp (nodup_of_lt hc) h)) hs (hc.imp fun h => by omega)
theorem sorted_self {t c : List Int} (ht : t.Perm c) (hs : t.Pairwise (· ≤ ·)) (hc : c.Pairwise (· < ·)) : t = c :=
  perm_sorted (fun a b h1 h2 => by omega) ht hs (hc.imp fun h => by omega)
open Classical in
noncomputable def firsts (m : Int) (T : List Tri) (O : List Int) (i : Int) : List Int := (pts i).filter fun x => decide (first T O x)
/-- the parts of the points below i -/
noncomputable def partsTo (m : Int) (T : List Tri) (O : List Int) (i : Int) : List (List Int) := (firsts m T O i).map (comp m T O)
theorem pts_succ {i : Int} (h : 0 ≤ i) : pts (i + 1) = pts i ++ [i] := by
  unfold pts
  have : (i + 1).toNat = i.toNat + 1 := by omega
  rw [this, List.range_succ, List.map_append]
  have e : ((i.toNat : Nat) : Int) = i := by omega
  simp [e]
theorem parts_zero : partsTo m T O 0 = [] := by unfold partsTo firsts pts; simp
theorem parts_yes {i : Int} (h : 0 ≤ i) (f : first T O i) : partsTo m T O (i + 1) = partsTo m T O i ++ [comp m T O i] := by
  unfold partsTo firsts
  rw [pts_succ h, List.filter_append, List.map_append]
  simp [f]
theorem parts_no {i : Int} (h : 0 ≤ i) (f : ¬ first T O i) : partsTo m T O (i + 1) = partsTo m T O i := by
  unfold partsTo firsts
  rw [pts_succ h, List.filter_append, List.map_append]
  simp [f]
open Classical in
theorem firsts_mem {i : Int} : x ∈ firsts m T O i ↔ (0 ≤ x ∧ x < i) ∧ first T O x := by
  unfold firsts
  rw [List.mem_filter, mem_pts, decide_eq_true_iff]
theorem firsts_lt {i : Int} : (firsts m T O i).Pairwise (· < ·) := pts_lt.sublist List.filter_sublist
theorem parts_len {i : Int} : (partsTo m T O i).length ≤ i.toNat := by
  unfold partsTo firsts
  rw [List.length_map]
  have := (List.filter_sublist (l := pts i) (p := fun x => @decide (first T O x) (Classical.propDecidable _))).length_le
  rw [pts_len] at this
  exact this
theorem in_comp (h0 : 0 ≤ x) (h1 : x < m) : x ∈ comp m T O x := mem_comp.mpr ⟨⟨h0, h1⟩, .refl⟩
/-- of a first point the part begins with it -/
theorem comp_head (h0 : 0 ≤ x) (h1 : x < m) (f : first T O x) : (comp m T O x).head? = some x := by
  have hx := in_comp (T := T) (O := O) h0 h1
  cases e : comp m T O x with
  | nil => rw [e] at hx; cases hx
  | cons y r =>
    rw [e] at hx
    rcases List.mem_cons.mp hx with q | q
    · rw [q]; rfl
    · exfalso
      have lt := comp_lt (m := m) (T := T) (O := O) (x := x)
      rw [e, List.pairwise_cons] at lt
      have yx := lt.1 x q
      have hy : y ∈ comp m T O x := by rw [e]; exact .head _
      obtain ⟨⟨y0, _⟩, r⟩ := mem_comp.mp hy
      exact f.2 y y0 yx (r.out f.1) (r.symm f.1)
theorem heads {i : Int} (hi : i ≤ m) : (partsTo m T O i).map (fun c => c.headD 0) = firsts m T O i := by
  unfold partsTo
  rw [List.map_map]
  conv => rhs; rw [← List.map_id (firsts m T O i)]
  refine List.map_congr_left fun x hx => ?_
  obtain ⟨⟨x0, x1⟩, f⟩ := firsts_mem.mp hx
  have := comp_head (T := T) (O := O) x0 (by omega : x < m) f
  show (comp m T O x).headD 0 = x
  rw [List.headD_eq_head?_getD, this]; rfl
/-- two parts that share a point have one first point -/
theorem same_first {a : Int} (x0 : 0 ≤ x) (y0 : 0 ≤ y) (fx : first T O x) (fy : first T O y) (hx : Reach T O x a) (hy : Reach T O y a) : x = y := by
  have r1 : Reach T O x y := hx.trans (hy.symm fy.1)
  have r2 : Reach T O y x := r1.symm fx.1
  rcases Int.lt_trichotomy x y with q | q | q
  · exact absurd r1 (fy.2 x x0 q fx.1)
  · exact q
  · exact absurd r2 (fx.2 y y0 q fy.1)
theorem mem_flat {i : Int} (hi : i ≤ m) : y ∈ (partsTo m T O i).flatten ↔ ∃ x, 0 ≤ x ∧ x < i ∧ first T O x ∧ y ∈ comp m T O x := by
  rw [List.mem_flatten]
  constructor
  · rintro ⟨c, hc, hy⟩
    obtain ⟨x, hx, rfl⟩ := List.mem_map.mp hc
    obtain ⟨⟨x0, x1⟩, f⟩ := firsts_mem.mp hx
    exact ⟨x, x0, x1, f, hy⟩
  · rintro ⟨x, x0, x1, f, hy⟩
    exact ⟨_, List.mem_map.mpr ⟨x, firsts_mem.mpr ⟨⟨x0, x1⟩, f⟩, rfl⟩, hy⟩
theorem flat_nodup : (partsTo m T O m).flatten.Nodup := by
  unfold List.Nodup
  rw [List.pairwise_flatten]
  constructor
  · intro c hc
    obtain ⟨x, _, rfl⟩ := List.mem_map.mp hc
    exact nodup_of_lt comp_lt
  · unfold partsTo
    rw [List.pairwise_map]
    refine (firsts_lt (m := m) (T := T) (O := O) (i := m)).imp_of_mem fun {a b} ha hb hab => ?_
    intro u hu v hv e
    subst e
    obtain ⟨⟨a0, _⟩, fa⟩ := firsts_mem.mp ha
    obtain ⟨⟨b0, _⟩, fb⟩ := firsts_mem.mp hb
    have := same_first a0 b0 fa fb (mem_comp.mp hu).2 (mem_comp.mp hv).2
    omega
/-- all points that are not out -/
theorem flat_mem : y ∈ (partsTo m T O m).flatten ↔ (0 ≤ y ∧ y < m) ∧ y ∉ O := by
  rw [mem_flat (Int.le_refl _)]
  constructor
  · rintro ⟨x, x0, x1, f, hy⟩
    obtain ⟨h, r⟩ := mem_comp.mp hy
    exact ⟨h, r.out f.1⟩
  · rintro ⟨⟨h0, h1⟩, ho⟩
    obtain ⟨x, x0, xy, f, r⟩ := exists_first (T := T) (O := O) y.toNat y rfl h0 ho
    exact ⟨x, x0, by omega, f, mem_comp.mpr ⟨⟨h0, h1⟩, r⟩⟩
/-- a tie's ends are in one part -/
theorem tie_one {i j : Nat} {c d : List Int} {a b : Int} (hi : (partsTo m T O m)[i]? = some c) (hj : (partsTo m T O m)[j]? = some d) (ha : a ∈ c) (hb : b ∈ d) (t : tied T a b) : i = j := by
  unfold partsTo at hi hj
  rw [List.getElem?_map] at hi hj
  cases ex : (firsts m T O m)[i]? with
  | none => rw [ex] at hi; cases hi
  | some x =>
    cases ey : (firsts m T O m)[j]? with
    | none => rw [ey] at hj; cases hj
    | some y =>
      rw [ex] at hi; rw [ey] at hj
      cases hi; cases hj
      obtain ⟨⟨x0, _⟩, fx⟩ := firsts_mem.mp (List.mem_of_getElem? ex)
      obtain ⟨⟨y0, _⟩, fy⟩ := firsts_mem.mp (List.mem_of_getElem? ey)
      have rb := (mem_comp.mp hb).2
      have e := same_first x0 y0 fx fy (.step (mem_comp.mp ha).2 t (rb.out fy.1)) rb
      subst e
      have lt := firsts_lt (m := m) (T := T) (O := O) (i := m)
      rw [List.pairwise_iff_getElem] at lt
      obtain ⟨hi', ei⟩ := List.getElem?_eq_some_iff.mp ex
      obtain ⟨hj', ej⟩ := List.getElem?_eq_some_iff.mp ey
      rcases Nat.lt_trichotomy i j with q | q | q
      · have := lt i j hi' hj' q
        omega
      · exact q
      · have := lt j i hj' hi' q
        omega
/-- a part hangs together: what is reached from one of it within it -/
structure Hangs (T : List Tri) (P : List Int) (h : Int) : Prop where
  ex : ∃ O : List Int, (∀ y ∈ P, Reach T O h y) ∧ ∀ y ∈ P, ∀ z, tied T y z → z ∉ O → z ∈ P
theorem hangs_of (g : good m T) (h0 : 0 ≤ x) (h1 : x < m) (f : first T O x) : ∀ {h : Int}, h ∈ comp m T O x → Hangs T (comp m T O x) h := fun {h} hh => by
  obtain ⟨_, r⟩ := mem_comp.mp hh
  refine ⟨O, fun y hy => (r.symm f.1).trans (mem_comp.mp hy).2, fun y hy z t o => ?_⟩
  exact mem_comp.mpr ⟨(good_tied g t).2, .step (mem_comp.mp hy).2 t o⟩
theorem hangs_all {P R : List Int} {h : Int} (k : Hangs T P h) (hP : h ∈ P) (hR : h ∈ R) (c : ∀ a ∈ R, ∀ b, tied T a b → b ∈ P → b ∈ R) : ∀ y ∈ P, y ∈ R := by
  obtain ⟨O, r, cl⟩ := k.ex
  have key : ∀ y, Reach T O h y → y ∈ P ∧ y ∈ R := fun y q => by
    induction q with
    | refl => exact ⟨hP, hR⟩
    | @step y z _ t o ih =>
      have := cl y ih.1 z t o
      exact ⟨this, c y ih.2 z t this⟩
  exact fun y hy => (key y (r y hy)).2
/-- where each point stands -/
def plc : Nat → List (List Int) → List (Int × Nat)
  | _, [] => []
  | k, c :: r => c.map (fun y => (y, k)) ++ plc (k + 1) r
theorem plc_keys : ∀ (k : Nat) (cs : List (List Int)), (plc k cs).map (·.1) = cs.flatten
  | _, [] => rfl
  | k, c :: r => by
    show (c.map (fun y => (y, k)) ++ plc (k + 1) r).map (·.1) = c ++ r.flatten
    rw [List.map_append, plc_keys, List.map_map]
    congr 1
    conv => rhs; rw [← List.map_id c]
    rfl
theorem plc_snoc : ∀ (k : Nat) (cs : List (List Int)) (c : List Int), plc k (cs ++ [c]) = plc k cs ++ c.map fun y => (y, k + cs.length)
  | k, [], c => by simp [plc]
  | k, d :: r, c => by
    show d.map (fun y => (y, k)) ++ plc (k + 1) (r ++ [c]) = d.map (fun y => (y, k)) ++ plc (k + 1) r ++ _
    rw [plc_snoc, List.append_assoc]
    congr 3
    simp only [List.length_cons]
    funext y
    congr 1
    omega
theorem plc_in : ∀ {k : Nat} {cs : List (List Int)} {y : Int} {j : Nat}, (y, j) ∈ plc k cs → k ≤ j ∧ ∃ c, cs[j - k]? = some c ∧ y ∈ c
  | _, [], _, _, h => by simp [plc] at h
  | k, c :: r, y, j, h => by
    rcases List.mem_append.mp h with h | h
    · obtain ⟨z, hz, e⟩ := List.mem_map.mp h
      injection e with e1 e2
      subst e1; subst e2
      exact ⟨Nat.le_refl _, c, by simp, hz⟩
    · obtain ⟨h1, d, h2, h3⟩ := plc_in h
      refine ⟨by omega, d, ?_, h3⟩
      have : j - k = (j - (k + 1)) + 1 := by omega
      rw [this]
      simpa using h2
end
end G13

/-! ### k13: the text, the promises of the program's defs -/
namespace L2
open PySem PySem.Spec PyProof.Rows
theorem Fun.okX {P : Program} {w : World} {K : PySem.W.Frag} {mg : Str → Option Value} {base : Heap} {x qual : Str} {st : Stmt} {f : Addr} {fd : FuncData} {N ps : List Str} {k : Nat} {sp : Sp} (F : Fun K x qual st f fd) (S : FnScope N ps (defScope st)) (len : ∀ vs H Q E, sp vs H Q E → vs.length = ps.length)
    (hb : ∀ (cdv : Value) (A : Around) (outer : List Env) (s : Shared) (H : Hp) (vs : List V) (Q : VK) (E : XK), Room k (A.deeper (envOfC qual (defScope st) s.heap.objs.size f cdv)) → sp vs H Q E →
      ∃ t, PSs (cxOf (CXx P w) P w K mg base N qual (defScope st) f cdv A outer s H E) (defBody st) t ∧ t { nx := fun _ H' => Q .non H', rt := Q } (start N vs) H) : FnOk P w K mg base (CXx P w) (k + 1) f fd ps sp := by
  obtain ⟨oc, od, kV, doc, pm, an, cdv, ct, osl, rfl, lk, hcd⟩ := F.ex
  exact fn_of lk hcd S len fun A outer s H vs Q E hr hsp => hb cdv A outer s H vs Q E hr hsp
end L2
namespace K13
open PySem L2 PyProof.Rows
def top (i : Nat) : Stmt := PySem.Challenge.pw_pairsheath_k13_whole_web_in_parts.main.body.getD i (.Pass ⟨0, 0, 0, 0⟩)
abbrev sFrom : Stmt := top 1
abbrev sParts : Stmt := top 2
abbrev sOdd : Stmt := top 3
abbrev sSize : Stmt := top 11
abbrev sEnds : Stmt := top 12
abbrev sOrd : Stmt := top 13
abbrev sWts : Stmt := top 14
abbrev sNb : Stmt := top 15
abbrev sInit : Stmt := inClass (top 16) 0
abbrev sMSize : Stmt := inClass (top 16) 1
abbrev sTied : Stmt := inClass (top 16) 4
abbrev sCell : Stmt := top 18
abbrev sWhole : Stmt := top 19
abbrev sMix : Stmt := top 20
abbrev sDrawn : Stmt := top 21
abbrev sNth : Stmt := top 22
abbrev sRows : Stmt := top 23
abbrev sOut : Stmt := top 24
abbrev sListed : Stmt := top 25
abbrev sHangs : Stmt := top 26
abbrev sRight : Stmt := top 27
abbrev sLaw : Stmt := top 28

abbrev mroV : List Value := [.type "ValueError", .type "Exception", .type "BaseException", .type "object"]
abbrev newV : String := "ValueError.__new__"
section
variable {P : Program} {w : World} {K : PySem.W.Frag} {mg : Str → Option Value} {base : Heap}
theorem Same.new {H : Hp} {p : Addr} {o : HO} (h : H p = none) : Same H (upd H p o) := fun b u e => by
  rw [upd_ne (ne_of_none e h)]
  exact e
/-! check_size -/
def spSize (CT : Addr) : Sp := fun vs H Q E => ∃ m : Int, vs = [.int m] ∧ ((m < 0 ∨ 24 < m) → E (.ref CT) none H) ∧ (¬ (m < 0 ∨ 24 < m) → Q .non H)
theorem scSize : FnScope ["many"] ["many"] (defScope sSize) := ⟨rfl, rfl, rfl, by decide +kernel, rfl, by decide +kernel, by decide +kernel⟩
theorem ok_size {f CT : Addr} {fd : FuncData} {u24 : Value} (F : Fun K "check_size" "check_size" sSize f fd) (T : ExcC K mg "TooMany" CT mroV newV) (g24 : mg "MOST_POINTS" = some u24) (r24 : RelV (.int 24) u24) : FnOk P w K mg base (CXx P w) 1 f fd ["many"] (spSize CT) := by
  refine F.okX scSize (fun vs H Q E h => ?_) (fun cdv A outer s H vs Q E hr h => ?_)
  · obtain ⟨m, rfl, _⟩ := h
    rfl
  · obtain ⟨m, rfl, h1, h2⟩ := h
    refine ⟨_, pss_one (ps_if (pw_or (pt_cmpR op_lt (pv 0) pe_int (nomark _)) (pw_or1 (pt_cmpR op_gt (pv 0) (pe_glob (by rfl) g24 r24) (nomark _)))).pt
      (pss_one (ps_raise T PySem.F.excBase_ValueError hr.hd rfl)) pss_nil), ?_⟩
    refine ⟨_, rfl, _, _, rfl, rfl, _, rfl, ?_⟩
    refine ite2 (fun c => iteT (h1 (.inl (of_decide_eq_true c)))) (fun c => ?_)
    refine ⟨_, rfl, _, _, rfl, rfl, _, rfl, ?_⟩
    refine ite2 (fun d => h1 (.inr (of_decide_eq_true d))) (fun d => h2 ?_)
    simp only [decide_eq_true_eq] at c d
    omega
/-! ordered -/
def spOrd : Sp := fun vs H Q _ => ∃ a b : Int, vs = [.int a, .int b] ∧ ∀ p, H p = none → Q (.ref p) (upd H p (.tup [.int (Mt.lo a b), .int (Mt.hi a b)]))
theorem scOrd : FnScope ["a", "b"] ["a", "b"] (defScope sOrd) := ⟨rfl, rfl, rfl, by decide +kernel, rfl, by decide +kernel, by decide +kernel⟩
theorem ok_ord {f : Addr} {fd : FuncData} (F : Fun K "ordered" "ordered" sOrd f fd) (gmin : mg "min" = none) (gmax : mg "max" = none) : FnOk P w K mg base CX0 1 f fd ["a", "b"] spOrd := by
  refine F.ok scOrd (fun vs H Q E h => ?_) (fun cdv A outer s H vs Q E hr h => ?_)
  · obtain ⟨a, b, rfl, _⟩ := h
    rfl
  · obtain ⟨a, b, rfl, h⟩ := h
    refine ⟨_, pss_one (ps_ret (pe_tup (pa_cons (pe_callB (call_min2 rfl) (by rfl) gmin boot_min (pa_cons (pv 0) (pa_cons (pv 1) pa_nil)))
      (pa_cons (pe_callB (call_max2 rfl) (by rfl) gmax boot_max (pa_cons (pv 0) (pa_cons (pv 1) pa_nil))) pa_nil)))), ?_⟩
    exact ⟨_, rfl, _, rfl, a, b, rfl, _, rfl, _, rfl, a, b, rfl, (by show 2 ≤ sizeLine; decide), fun p hp => h p hp⟩
/-! check_ends -/
def spEnds (CB : Addr) : Sp := fun vs H Q E => ∃ m a b : Int, vs = [.int m, .int a, .int b] ∧ (Mt.bad m a b → ∀ H', Same H H' → E (.ref CB) none H') ∧ (¬ Mt.bad m a b → ∀ H', Same H H' → Q .non H')
theorem scEnds : FnScope ["many", "a", "b", "end"] ["many", "a", "b"] (defScope sEnds) := ⟨rfl, rfl, rfl, by decide +kernel, rfl, by decide +kernel, by decide +kernel⟩
theorem ok_ends {f CB : Addr} {fd : FuncData} (F : Fun K "check_ends" "check_ends" sEnds f fd) (T : ExcC K mg "BadTie" CB mroV newV) : FnOk P w K mg base (CXx P w) 1 f fd ["many", "a", "b"] (spEnds CB) := by
  refine F.okX scEnds (fun vs H Q E h => ?_) (fun cdv A outer s H vs Q E hr h => ?_)
  · obtain ⟨m, a, b, rfl, _⟩ := h
    rfl
  · obtain ⟨m, a, b, rfl, h1, h2⟩ := h
    refine ⟨_, pss_cons (ps_for PassesOwn.leaving rfl (pi_tup (pe_tup (pa_cons (pv 1) (pa_cons (pv 2) pa_nil)))) (pg_name (i := 3) scEnds.nd rfl (Or.inl rfl))
        (pss_one (ps_if (pw_or (pt_cmpR op_lt (pv 3) pe_int (nomark _)) (pw_or1 (pt_cmpR op_ge (pv 3) (pv 0) (nomark _)))).pt (pss_one (ps_raise T PySem.F.excBase_ValueError hr.hd rfl)) pss_nil)))
      (pss_one (ps_if (pt_cmpR op_eq (pv 1) (pv 2) (nomark _)) (pss_one (ps_raise T PySem.F.excBase_ValueError hr.hd rfl)) pss_nil)), ?_⟩
    refine ⟨_, rfl, _, rfl, (by show 2 ≤ sizeLine; decide), fun t ht => ⟨t, rfl, ⟨_, SqT.of upd_same⟩, for_tup (xs := [V.int a, V.int b])
      (fun i σ H2 => ∃ e, σ = [some (.int m), some (.int a), some (.int b), e] ∧ Same H H2 ∧ H2 t = some (.tup [.int a, .int b]) ∧ (0 < i → ¬ (a < 0 ∨ m ≤ a)) ∧ (1 < i → ¬ (b < 0 ∨ m ≤ b)))
      ⟨none, rfl, Same.new ht, upd_same, fun z => absurd z (by decide), fun z => absurd z (by decide)⟩ (fun i σ H2 _ ⟨e, _, _, hh, _⟩ => SqT.of hh) ?_ ?_⟩⟩
    · rintro i x σ H2 hi ⟨e, rfl, sm, hh, q1, q2⟩
      obtain ⟨v, rfl, hv⟩ : ∃ v : Int, x = .int v ∧ ((i = 0 ∧ v = a) ∨ (i = 1 ∧ v = b)) := by
        match i, hi with
        | 0, hi => exact ⟨a, (Option.some.inj hi).symm, .inl ⟨rfl, rfl⟩⟩
        | 1, hi => exact ⟨b, (Option.some.inj hi).symm, .inr ⟨rfl, rfl⟩⟩
        | n + 2, hi => cases hi
      have bd : v < 0 ∨ m ≤ v → Mt.bad m a b := by
        unfold Mt.bad
        rcases hv with ⟨_, rfl⟩ | ⟨_, rfl⟩ <;> omega
      refine ⟨_, rfl, _, _, rfl, rfl, _, rfl, ?_⟩
      refine ite2 (fun c => iteT (h1 (bd (.inl (of_decide_eq_true c))) H2 sm)) (fun c => ?_)
      refine ⟨_, rfl, _, rfl, _, _, rfl, rfl, _, rfl, ?_⟩
      refine ite2 (fun d => h1 (bd (.inr (of_decide_eq_true d))) H2 sm) (fun d => ?_)
      simp only [decide_eq_true_eq] at c d
      refine ⟨_, rfl, sm, hh, fun z => ?_, fun z => ?_⟩
      · rcases hv with ⟨rfl, rfl⟩ | ⟨rfl, rfl⟩
        · omega
        · exact q1 (by decide)
      · rcases hv with ⟨rfl, rfl⟩ | ⟨rfl, rfl⟩
        · exact absurd z (by decide)
        · omega
    · rintro σ H2 ⟨e, rfl, sm, hh, q1, q2⟩
      have r1 := q1 (by show 0 < 2; decide)
      have r2 := q2 (by show 1 < 2; decide)
      refine ⟨_, rfl, _, rfl, rfl, _, rfl, ?_⟩
      refine ite2 (fun c => h1 ?_ H2 sm) (fun c => h2 ?_ H2 sm)
      · have e : V.int a = V.int b := of_decide_eq_true c
        injection e with e
        unfold Mt.bad; omega
      · have e : a ≠ b := fun z => c (by rw [z]; simp)
        unfold Mt.bad; omega
end
end K13

/-! ### k13: weights_of -/
namespace K13
open PySem L2 PyProof.Rows
section
variable {P : Program} {w : World} {K : PySem.W.Frag} {mg : Str → Option Value} {base : Heap}
/-- a list of triples stands at p -/
structure RowsAt (K : PySem.W.Frag) (H : Hp) (p : Addr) (rs : List Addr) (T : List Mt.Tri) : Prop where
  ls : SqL K H p (rs.map V.ref)
  tp : TupsH H rs (T.map Mt.tri)
theorem TupsH.same {H H' : Hp} (s : Same H H') : ∀ {rs : List Addr} {ts : List (List Int)}, TupsH H rs ts → TupsH H' rs ts
  | _, _, .nil => .nil
  | _, _, .cons h t => .cons ⟨s _ _ h.1, h.2⟩ (TupsH.same s t)
theorem RowsAt.same {H H' : Hp} {p : Addr} {rs : List Addr} {T : List Mt.Tri} (s : Same H H') (h : RowsAt K H p rs T) : RowsAt K H' p rs T := ⟨s.seq h.ls, TupsH.same s h.tp⟩
theorem RowsAt.len {H : Hp} {p : Addr} {rs : List Addr} {T : List Mt.Tri} (h : RowsAt K H p rs T) : rs.length = T.length := by
  have := Paired.length h.tp
  rw [List.length_map] at this
  exact this
theorem RowsAt.at_ {H : Hp} {p : Addr} {rs : List Addr} {T : List Mt.Tri} (h : RowsAt K H p rs T) {i : Nat} {x : V} (e : (rs.map V.ref)[i]? = some x) :
    ∃ r t, x = .ref r ∧ T[i]? = some t ∧ H r = some (.tup [.int t.1, .int t.2.1, .int t.2.2]) := by
  rw [List.getElem?_map] at e
  cases er : rs[i]? with
  | none => rw [er] at e; cases e
  | some r =>
    rw [er] at e
    obtain ⟨u, eu, hu, _⟩ := Sx.pair_at (i := i) (a := r) h.tp er
    rw [List.getElem?_map] at eu
    cases et : T[i]? with
    | none => rw [et] at eu; cases eu
    | some t =>
      rw [et] at eu
      cases eu
      exact ⟨r, t, (Option.some.inj e).symm, rfl, hu⟩
/-- the dict of the weights -/
def kk (t : Mt.Tri) : List Key := (Mt.key t).map Sum.inl
def wd (T : List Mt.Tri) : List (List Key × V) := T.map fun t => (kk t, V.int t.2.2)
theorem inl_inj : ∀ {a b : List Int}, a.map (Sum.inl : Int → Key) = b.map Sum.inl → a = b
  | [], [], _ => rfl
  | [], _ :: _, e => by simp at e
  | _ :: _, [], e => by simp at e
  | x :: xs, y :: ys, e => by
    rw [List.map_cons, List.map_cons] at e
    injection e with e1 e2
    injection e1 with e1
    rw [e1, inl_inj e2]
theorem wd_some (T : List Mt.Tri) (t : Mt.Tri) : (valV (wd T) (kk t)).isSome = (T.map Mt.key).any fun k => decide (k = Mt.key t) := by
  rw [← valV_any]
  induction T with
  | nil => rfl
  | cons u T ih =>
    show (decide (kk u = kk t) || (wd T).any _) = (decide (Mt.key u = Mt.key t) || (T.map Mt.key).any _)
    rw [ih]
    congr 1
    rw [Bool.eq_iff_iff, decide_eq_true_iff, decide_eq_true_iff]
    exact ⟨fun e => inl_inj e, fun e => by unfold kk; rw [e]⟩
theorem wd_snoc (T : List Mt.Tri) (t : Mt.Tri) (h : (valV (wd T) (kk t)) = none) : putK (wd T) (kk t) (.int t.2.2) = wd (T ++ [t]) := by
  rw [putK_new _ h]
  unfold wd
  rw [List.map_append]
  rfl
def spWts (CB C2 : Addr) (K : PySem.W.Frag) : Sp := fun vs H Q E => ∃ (m : Int) (p : Addr) (rs : List Addr) (T : List Mt.Tri), vs = [.int m, .ref p] ∧ RowsAt K H p rs T ∧ T.length < 1000 ∧
  (Mt.scan m T [] = .bad → ∀ H', Same H H' → E (.ref CB) none H') ∧ (Mt.scan m T [] = .twice → ∀ H', Same H H' → E (.ref C2) none H') ∧
  (Mt.scan m T [] = .good → ∀ d H', H d = none → Same H H' → H' d = some (.dT (wd T)) → Q (.ref d) H')
theorem scWts : FnScope ["many", "ties", "weights", "a", "b", "weight", "ends"] ["many", "ties"] (defScope sWts) := ⟨rfl, rfl, rfl, by decide +kernel, rfl, by decide +kernel, by decide +kernel⟩
theorem ok_wts {f fE fO CB C2 : Addr} {fd fdE fdO : FuncData} (F : Fun K "weights_of" "weights_of" sWts f fd) (T2 : ExcC K mg "Twice" C2 mroV newV)
    (GE : FnOk P w K mg base (CXx P w) 1 fE fdE ["many", "a", "b"] (spEnds CB)) (mE : mg "check_ends" = some (.ref fE)) (kE : PySem.W.keepIn K (.ref fE) = true) (bE : Binds K fdE ["many", "a", "b"] [])
    (GO : FnOk P w K mg base CX0 1 fO fdO ["a", "b"] spOrd) (mO : mg "ordered" = some (.ref fO)) (kO : PySem.W.keepIn K (.ref fO) = true) (bO : Binds K fdO ["a", "b"] []) :
    FnOk P w K mg base (CXx P w) 2 f fd ["many", "ties"] (spWts CB C2 K) := by
  refine F.okX scWts (fun vs H Q E h => ?_) (fun cdv A outer s H vs Q E hr h => ?_)
  · obtain ⟨m, p, rs, T, rfl, _⟩ := h
    rfl
  · obtain ⟨m, p, rs, T, rfl, R, hl, hb, h2, hg⟩ := h
    have hu := hu_of hr
    refine ⟨_, pss_cons (ps_set (i := 2) scWts.nd rfl (Or.inl rfl) pe_dnewT)
      (pss_cons (ps_for PassesOwn.leaving rfl (pi_list (pv 1)) (pg_tup rfl (pgs_cons (pg_name (i := 3) scWts.nd rfl (Or.inl rfl)) (pgs_cons (pg_name (i := 4) scWts.nd rfl (Or.inl rfl)) (pgs_cons (pg_name (i := 5) scWts.nd rfl (Or.inl rfl)) pgs_nil))))
        (pss_cons (ps_expr (pe_call GE hr rfl mE kE bE .nil passX (pa_cons (pv 0) (pa_cons (pv 3) (pa_cons (pv 4) pa_nil)))))
        (pss_cons (ps_set (i := 6) scWts.nd rfl (Or.inl rfl) (pe_call GO hr rfl mO kO bO .nil pass0 (pa_cons (pv 3) (pa_cons (pv 4) pa_nil))))
        (pss_cons (ps_if (pt_cmp (pc_din hu (pv 6) (pv 2))) (pss_one (ps_raise T2 PySem.F.excBase_ValueError hr.hd rfl)) pss_nil)
        (pss_one (ps_dput hu (pv 2) (pv 6) (pv 5) rfl))))))
      (pss_one (ps_ret (pv 2)))), ?_⟩
    intro d hd
    have s0 : Same H (upd H d (.dT [])) := Same.new hd
    refine ⟨_, rfl, p, rfl, ⟨_, (R.same s0).ls⟩, for_list (K := K) (a := p) (xs := rs.map V.ref)
      (fun i σ H2 => ∃ e3 e4 e5 e6, σ = [some (.int m), some (.ref p), some (.ref d), e3, e4, e5, e6] ∧ Same H H2 ∧ H2 d = some (.dT (wd (T.take i))) ∧ Mt.scan m T [] = Mt.scan m (T.drop i) ((T.take i).map Mt.key))
      ⟨none, none, none, none, rfl, s0, upd_same, rfl⟩ (fun i σ H2 _ ⟨_, _, _, _, _, s2, _⟩ => (R.same s2).ls) ?_ ?_⟩
    · rintro i x σ H2 hi ⟨e3, e4, e5, e6, rfl, s2, hdi, hsc⟩
      obtain ⟨r, t, rfl, et, ht⟩ := (R.same s2).at_ hi
      have hil : i < T.length := (List.getElem?_eq_some_iff.mp et).1
      have hdr : T.drop i = t :: T.drop (i + 1) := by
        rw [List.drop_eq_getElem_cons hil]
        congr 1
        exact (List.getElem?_eq_some_iff.mp et).2
      have htk : T.take (i + 1) = T.take i ++ [t] := by
        rw [List.take_succ, et]
        rfl
      rw [hdr, Mt.scan_cons] at hsc
      -- a, b, weight = the row
      refine ⟨r, _, rfl, SqT.of ht, rfl, _, _, rfl, _, _, rfl, _, _, rfl, rfl, ?_⟩
      -- check_ends(many, a, b)
      refine ⟨_, rfl, _, rfl, _, rfl, m, t.1, t.2.1, rfl, fun bd H3 s3 => ?_, fun nb H3 s3 => ?_⟩
      · rw [if_pos bd] at hsc
        exact hb hsc H3 (s2.trans s3)
      · rw [if_neg nb] at hsc
        -- ends = ordered(a, b)
        refine ⟨_, rfl, _, rfl, t.1, t.2.1, rfl, fun q hq => ?_⟩
        have s4 : Same H3 (upd H3 q (.tup [.int (Mt.lo t.1 t.2.1), .int (Mt.hi t.1 t.2.1)])) := Same.new hq
        have hd4 := s4 d _ (s3 d _ hdi)
        have hq4 : upd H3 q (.tup [.int (Mt.lo t.1 t.2.1), .int (Mt.hi t.1 t.2.1)]) q = some (.tup ((kk t).map kV)) := upd_same
        refine ⟨_, rfl, _, rfl, d, _, rfl, DGet.t (k := kk t) hd4 hq4, _, rfl, ?_⟩
        refine ite2 (fun c => ?_) (fun c => ?_)
        · rw [wd_some] at c
          rw [if_pos c] at hsc
          exact h2 hsc _ (s2.trans (s3.trans s4))
        · have cn : valV (wd (T.take i)) (kk t) = none := by
            cases q : valV (wd (T.take i)) (kk t) with
            | none => rfl
            | some v => rw [q] at c; exact absurd rfl c
          rw [wd_some] at c
          rw [if_neg c] at hsc
          refine ⟨_, rfl, _, rfl, _, rfl, d, _, rfl, DPut.t (k := kk t) hd4 hq4 (small1000 ?_), ?_⟩
          · unfold wd; rw [List.length_map, List.length_take]; omega
          · refine ⟨_, _, _, _, rfl, fun b o e => ?_, ?_, ?_⟩
            · rw [upd_ne (ne_of_none e hd)]
              exact s4 b o (s3 b o (s2 b o e))
            · rw [upd_same, wd_snoc _ _ cn, htk]
            · rw [hsc, htk, List.map_append]; rfl
    · rintro σ H2 ⟨e3, e4, e5, e6, rfl, s2, hdi, hsc⟩
      rw [List.length_map, R.len] at hdi hsc
      rw [List.take_length] at hdi hsc
      rw [List.drop_length] at hsc
      exact ⟨_, rfl, hg hsc d H2 hd s2 hdi⟩
end
end K13

/-! ### k13: neighbours_of -/
namespace K13
open PySem L2 PyProof.Rows
section
variable {P : Program} {w : World} {K : PySem.W.Frag} {mg : Str → Option Value} {base : Heap}
theorem relabel_no {scope : Scope} {env : Env} (h : ∀ y ∈ scope.names, y.2 ≠ .cell ∧ y.2 ≠ .free) (x : Str) : ¬ ((relabel scope env).names.lookup x = some .cell ∨ (relabel scope env).names.lookup x = some .free) := by
  have key : ∀ y ∈ (relabel scope env).names, y.2 ≠ .cell ∧ y.2 ≠ .free := fun y hy => by
    obtain ⟨z, hz, e⟩ := List.mem_map.mp hy
    have h' := h z hz
    obtain ⟨n, k⟩ := z
    have hk : (k == NameKind.free) = false := beq_eq_false_iff_ne.mpr h'.2
    simp only [hk, Bool.false_and, Bool.false_eq_true, if_false] at e
    subst e
    exact h'
  rintro (e | e)
  · exact (key _ (PySem.mem_of_lookup e)).1 rfl
  · exact (key _ (PySem.mem_of_lookup e)).2 rfl
theorem caps0 {X : Cx} {scope : Scope} {own : List Str} (h1 : closureFor scope X.env = pure []) (h2 : scope.kind = .function) (h3 : ∀ y ∈ scope.names, y.2 ≠ .cell ∧ y.2 ≠ .free) (h4 : ∀ y ∈ scope.names, y.2 = .local → scope.names.lookup y.1 = some .local) : Caps X scope [] own [] [] :=
  ⟨h1, fun x c e => (by cases e), h2, fun y hy => (h3 y hy).1, h4, fun x hx => absurd hx (relabel_no h3 x), rfl, fun i x e => (by cases e)⟩
theorem ix_inj {α : Type} {l : List α} {i j : Nat} {x : α} (h : l.Nodup) (hi : l[i]? = some x) (hj : l[j]? = some x) : i = j := by
  have h : l.Pairwise (· ≠ ·) := h
  rw [List.pairwise_iff_getElem] at h
  obtain ⟨a, ea⟩ := List.getElem?_eq_some_iff.mp hi
  obtain ⟨b, eb⟩ := List.getElem?_eq_some_iff.mp hj
  rcases Nat.lt_trichotomy i j with q | q | q
  · exact absurd (ea.trans eb.symm) (h i j a b q)
  · exact q
  · exact absurd (eb.trans ea.symm) (h j i b a q)
/-- the points beside i, by the keys in their order -/
def nbM (ts : List (List Int)) (i : Int) : List Int := ts.flatMap fun t => match t with | [a, b] => (if a = i then [b] else []) ++ (if b = i then [a] else []) | _ => []
theorem nbM_snoc (l : List (List Int)) (a b k : Int) : nbM (l ++ [[a, b]]) k = nbM l k ++ ((if a = k then [b] else []) ++ (if b = k then [a] else [])) := by
  unfold nbM
  rw [List.flatMap_append]
  simp
theorem nbM_len (k : Int) : ∀ l : List (List Int), (nbM l k).length ≤ 2 * l.length
  | [] => Nat.le_refl _
  | t :: l => by
    have ih := nbM_len k l
    unfold nbM at ih ⊢
    rw [List.flatMap_cons, List.length_append, List.length_cons]
    have : (match t with | [a, b] => (if a = k then [b] else []) ++ (if b = k then [a] else []) | _ => []).length ≤ 2 := by
      split
      · rw [List.length_append]
        split <;> split <;> simp
      · exact Nat.zero_le _
    omega
theorem mem_nbM {ts : List (List Int)} {i y : Int} : y ∈ nbM ts i ↔ [i, y] ∈ ts ∨ [y, i] ∈ ts := by
  unfold nbM
  rw [List.mem_flatMap]
  constructor
  · rintro ⟨t, ht, h⟩
    match t, ht, h with
    | [a, b], ht, h =>
      rcases List.mem_append.mp h with h2 | h2
      · split at h2
        · rename_i e
          rw [List.mem_singleton] at h2
          rw [← e, h2]
          exact .inl ht
        · cases h2
      · split at h2
        · rename_i e
          rw [List.mem_singleton] at h2
          rw [← e, h2]
          exact .inr ht
        · cases h2
    | [], _, h => cases h
    | [_], _, h => cases h
    | _ :: _ :: _ :: _, _, h => cases h
  · rintro (h | h)
    · exact ⟨_, h, List.mem_append_left _ (by rw [if_pos rfl]; exact .head _)⟩
    · exact ⟨_, h, List.mem_append_right _ (by rw [if_pos rfl]; exact .head _)⟩
/-- the neighbours of all points lie at n -/
def NbAt (H : Hp) (n : Addr) (m : Int) (ts : List (List Int)) : Prop := ∃ ps : List Addr, H n = some (.lst (ps.map V.ref)) ∧ ps.length = m.toNat ∧ ∀ (j : Nat) q, ps[j]? = some q → H q = some (.lst ((nbM ts j).map V.int))
theorem NbAt.at' {H H' : Hp} {n : Addr} {m : Int} {ts : List (List Int)} (h : NbAt H n m ts) (k : ∀ b xs, H b = some (.lst xs) → H' b = some (.lst xs)) : NbAt H' n m ts := by
  obtain ⟨ps, h1, h2, h3⟩ := h
  exact ⟨ps, k _ _ h1, h2, fun j q e => k _ _ (h3 j q e)⟩
def spNb (K : PySem.W.Frag) : Sp := fun vs H Q _ => ∃ (m : Int) (e : Addr) (rs : List Addr) (ts : List (List Int)), vs = [.int m, .ref e] ∧ 0 ≤ m ∧ m ≤ 24 ∧ SqL K H e (rs.map V.ref) ∧ TupsH H rs ts ∧ rs.length < 64 ∧
  (∀ t ∈ ts, ∃ a b : Int, t = [a, b] ∧ 0 ≤ a ∧ a < b ∧ b < m) ∧ ∀ n H', Same H H' → NbAt H' n m ts → Q (.ref n) H'
theorem scNb : FnScope ["many", "ends_sorted", "neighbours", "a", "b"] ["many", "ends_sorted"] (defScope sNb) := ⟨rfl, rfl, rfl, by decide +kernel, rfl, by decide +kernel, by decide +kernel⟩
theorem nd_own1 : ([".0", "point"] : List Str).Nodup := by decide +kernel
theorem ok_nb {f : Addr} {fd : FuncData} (F : Fun K "neighbours_of" "neighbours_of" sNb f fd) (grange : mg "range" = none) : FnOk P w K mg base CX0 1 f fd ["many", "ends_sorted"] (spNb K) := by
  refine F.ok scNb (fun vs H Q E h => ?_) (fun cdv A outer s H vs Q E hr h => ?_)
  · obtain ⟨m, e, rs, ts, rfl, _⟩ := h
    rfl
  · obtain ⟨m, e, rs, ts, rfl, hm0, hm, hS, hT, h64, hts, hQ⟩ := h
    refine ⟨_, pss_cons (ps_comp (i := 2) (own := [".0", "point"]) (cl := []) (caps := []) (js := []) rfl (caps0 rfl rfl (by decide +kernel) (by decide +kernel)) (pi_range1 rfl grange (pa_cons (pv 0) pa_nil))
        (fun pins C s H1 fp => pg_name (i := 1) nd_own1 rfl (Or.inl rfl)) (fun pins C s H1 fp => pts_nil) (fun pins C s H1 fp => pe_lst pa_nil) scNb.nd rfl rfl rfl)
      (pss_cons (ps_for PassesOwn.never rfl (pi_list (pv 1)) (pg_tup rfl (pgs_cons (pg_name (i := 3) scNb.nd rfl (Or.inl rfl)) (pgs_cons (pg_name (i := 4) scNb.nd rfl (Or.inl rfl)) pgs_nil)))
        (pss_cons (ps_expr (pe_bm PySem.F.plainAttrs_list PySem.F.slot_list_append PySem.F.type_list_append mt_append (pe_ix ix_list (pv 2) (pv 3) (fun _ _ => rfl)) (pa_cons (pv 4) pa_nil)))
        (pss_one (ps_expr (pe_bm PySem.F.plainAttrs_list PySem.F.slot_list_append PySem.F.type_list_append mt_append (pe_ix ix_list (pv 2) (pv 4) (fun _ _ => rfl)) (pa_cons (pv 3) pa_nil))))))
      (pss_one (ps_ret (pv 2)))), ?_⟩
    refine ⟨_, rfl, m, rfl, by omega, by omega, fun d hd => ?_⟩
    refine turns_range (n := m.toNat) (fun i ys σ H2 => ∃ ps : List Addr, ys = ps.map V.ref ∧ ps.length = i ∧ i ≤ m.toNat ∧ Same H H2 ∧ H2 d = some (.lst ys) ∧ ps.Nodup ∧ ∀ q ∈ ps, H2 q = some (.lst []) ∧ H q = none ∧ q ≠ d)
      ⟨[], rfl, rfl, Nat.zero_le _, Same.new hd, upd_same, List.nodup_nil, fun q hq => by cases hq⟩ ?_ ?_ ?_
    · rintro i ys σ H2 ⟨ps, rfl, hl, hi, _, hd2, _, _⟩
      refine ⟨hd2, small1000 ?_⟩
      rw [List.length_map]; omega
    · rintro i ys σ H2 hi ⟨ps, rfl, hl, _, s2, hd2, hnd, hps⟩
      unfold gName
      dsimp only
      refine yes_of ?_
      refine ⟨Nat.zero_le _, fun q hq => ?_⟩
      have nqd : d ≠ q := ne_of_none hd2 hq
      have s3 := s2.trans (Same.new (o := .lst []) hq)
      have hqH : H q = none := s2.free hq
      refine ⟨by rw [upd_ne nqd]; exact hd2, Nxt.mk hi ⟨ps ++ [q], by rw [List.map_append]; rfl, by rw [List.length_append, hl]; rfl, hi, fun b o e => ?_, upd_same, ?_, fun r hr => ?_⟩⟩
      · rw [upd_ne (ne_of_none e hd)]
        exact s3 b o e
      · rw [List.nodup_append]
        refine ⟨hnd, by simp, fun a ha b hb => ?_⟩
        rw [List.mem_singleton] at hb
        subst hb
        exact ne_of_none (hps a ha).1 hq
      · rcases List.mem_append.mp hr with hr | hr
        · obtain ⟨a1, a2, a3⟩ := hps r hr
          refine ⟨?_, a2, a3⟩
          rw [upd_ne a3, upd_ne (ne_of_none a1 hq)]
          exact a1
        · rw [List.mem_singleton] at hr
          subst hr
          refine ⟨?_, hqH, nqd.symm⟩
          rw [upd_ne nqd.symm, upd_same]
    · rintro ys σ0 H2 ⟨ps, rfl, hl, _, s2, hd2, hnd, hps⟩
      refine ⟨_, rfl, e, rfl, ⟨_, s2.seq hS⟩, for_list (K := K) (a := e) (xs := rs.map V.ref)
        (fun i σ H3 => ∃ e3 e4, σ = [some (.int m), some (.ref e), some (.ref d), e3, e4] ∧ Same H H3 ∧ H3 d = some (.lst (ps.map V.ref)) ∧ ∀ (j : Nat) q, ps[j]? = some q → H3 q = some (.lst ((nbM (ts.take i) j).map V.int)))
        ⟨none, none, rfl, s2, hd2, fun j q hq => by rw [(hps q (List.mem_of_getElem? hq)).1]; rfl⟩ (fun i σ H3 _ ⟨_, _, _, s3, _⟩ => s3.seq hS) ?_ ?_⟩
      · rintro i x σ H3 hi ⟨e3, e4, rfl, s3, hd3, hq3⟩
        have hil : i < rs.length := by have := (List.getElem?_eq_some_iff.mp hi).1; rw [List.length_map] at this; exact this
        obtain ⟨r, rfl, er⟩ : ∃ r, x = V.ref r ∧ rs[i]? = some r := by
          rw [List.getElem?_map] at hi
          cases q : rs[i]? with
          | none => rw [q] at hi; cases hi
          | some r => rw [q] at hi; exact ⟨r, (Option.some.inj hi).symm, rfl⟩
        obtain ⟨t, et, ht, _⟩ := Sx.pair_at (i := i) (a := r) hT er
        obtain ⟨a, b, rfl, ha0, hab, hb⟩ := hts t (List.mem_of_getElem? et)
        have htk : ts.take (i + 1) = ts.take i ++ [[a, b]] := by rw [List.take_succ, et]; rfl
        have at_ : ∀ z : Int, 0 ≤ z → z < m → ∃ q, ps[z.toNat]? = some q ∧ atI (ps.map V.ref) z = some (V.ref q) := fun z h0 h1 => by
          have hz : z.toNat < ps.length := by omega
          refine ⟨ps[z.toNat], by simp [hz], ?_⟩
          have := atI_nat (xs := ps.map V.ref) (j := z.toNat) (v := .ref ps[z.toNat]) (by simp [hz])
          rwa [Int.toNat_of_nonneg h0] at this
        have lnb : ∀ j : Nat, ((nbM (ts.take i) j).map V.int).length ≤ 2 * i := fun j => by
          rw [List.length_map]
          have := nbM_len (j : Int) (ts.take i)
          rw [List.length_take] at this
          omega
        obtain ⟨qa, eqa, ata⟩ := at_ a ha0 (by omega)
        obtain ⟨qb, eqb, atb⟩ := at_ b (by omega) hb
        have hxa := hq3 _ _ eqa
        have hxb := hq3 _ _ eqb
        have nab : qb ≠ qa := fun z => by
          subst z
          have := ix_inj hnd eqa eqb
          omega
        obtain ⟨_, fa, na⟩ := hps qa (List.mem_of_getElem? eqa)
        obtain ⟨_, fb, nb⟩ := hps qb (List.mem_of_getElem? eqb)
        refine ⟨r, _, rfl, SqT.of (s3 r _ ht), rfl, _, _, rfl, _, _, rfl, rfl, ?_⟩
        have la := lnb a.toNat
        have lb := lnb b.toNat
        refine ⟨_, rfl, _, rfl, d, _, a, _, rfl, rfl, SqL.of hd3, ata, .inl ⟨rfl, _, SqL.of hxa⟩, _, rfl, qa, _, _, rfl, rfl, hxa, small1000 (by omega), ?_⟩
        have hd4 : upd H3 qa (.lst ((nbM (ts.take i) a.toNat).map V.int ++ [.int b])) d = some (.lst (ps.map V.ref)) := by rw [upd_ne na.symm]; exact hd3
        have hxb4 : upd H3 qa (.lst ((nbM (ts.take i) a.toNat).map V.int ++ [.int b])) qb = some (.lst ((nbM (ts.take i) b.toNat).map V.int)) := by rw [upd_ne nab]; exact hxb
        refine ⟨_, rfl, _, rfl, d, _, b, _, rfl, rfl, SqL.of hd4, atb, .inl ⟨rfl, _, SqL.of hxb4⟩, _, rfl, qb, _, _, rfl, rfl, hxb4, small1000 (by omega), ?_⟩
        refine ⟨_, _, rfl, fun c o ec => ?_, by rw [upd_ne nb.symm]; exact hd4, fun j q hq => ?_⟩
        · rw [upd_ne (ne_of_none ec fb), upd_ne (ne_of_none ec fa)]
          exact s3 c o ec
        · rw [htk, nbM_snoc]
          by_cases z : q = qb
          · subst z
            have e := ix_inj hnd hq eqb
            subst e
            rw [upd_same, if_neg (by omega), if_pos (by omega), List.nil_append, List.map_append]
            rfl
          · by_cases z2 : q = qa
            · subst z2
              have e := ix_inj hnd hq eqa
              subst e
              rw [upd_ne z, upd_same, if_pos (by omega), if_neg (by omega), List.append_nil, List.map_append]
              rfl
            · have n1 : ¬ a = (j : Int) := fun k => z2 (Option.some.inj (hq.symm.trans (by rw [← eqa]; congr 1; omega)))
              have n2 : ¬ b = (j : Int) := fun k => z (Option.some.inj (hq.symm.trans (by rw [← eqb]; congr 1; omega)))
              rw [upd_ne z, upd_ne z2, if_neg n1, if_neg n2, List.append_nil, List.append_nil]
              exact hq3 j q hq
      · rintro σ H3 ⟨e3, e4, rfl, s3, hd3, hq3⟩
        have lrs := Paired.length hT
        rw [List.length_map, lrs, List.take_length] at hq3
        exact ⟨_, rfl, hQ d H3 s3 ⟨ps, hd3, hl, hq3⟩⟩
end
end K13

/-! ### k13: Web -/
namespace K13
open PySem L2 PyProof.Rows
section
variable {P : Program} {w : World} {K : PySem.W.Frag} {mg : Str → Option Value} {base : Heap}
theorem putF_len (f : Str) (v : V) : ∀ l : List (Str × V), (putF f v l).length ≤ l.length + 1
  | [] => Nat.le_refl _
  | p :: r => by
    obtain ⟨g, u⟩ := p
    show (if g = f then (g, v) :: r else (g, u) :: putF f v r).length ≤ _
    split
    · exact Nat.le_succ _
    · have := putF_len f v r
      simp only [List.length_cons]
      omega
/-- the weight of a key -/
def wt (T : List Mt.Tri) (k : List Int) : Int := match valV (wd T) (k.map Sum.inl) with | some (.int z) => z | _ => 0
theorem wt_get {T : List Mt.Tri} {t : Mt.Tri} (h : t ∈ T) : ∃ z, valV (wd T) (kk t) = some (.int z) := by
  have e := wd_some T t
  rw [List.any_eq_true.mpr ⟨Mt.key t, List.mem_map.mpr ⟨t, h, rfl⟩, decide_eq_true rfl⟩] at e
  obtain ⟨v, hv⟩ := Option.isSome_iff_exists.mp e
  unfold valV at hv
  cases q : (wd T).find? fun kv => decide (kv.1 = kk t) with
  | none => rw [q] at hv; cases hv
  | some p =>
    obtain ⟨u, _, eu⟩ := List.mem_map.mp (List.mem_of_find?_eq_some q)
    unfold valV
    rw [q, ← eu]
    exact ⟨_, rfl⟩
theorem wt_val {T : List Mt.Tri} {t : Mt.Tri} (h : t ∈ T) : valV (wd T) (kk t) = some (.int (wt T (Mt.key t))) := by
  obtain ⟨z, hz⟩ := wt_get h
  have e : wt T (Mt.key t) = z := by
    unfold wt
    rw [show valV (wd T) ((Mt.key t).map Sum.inl) = some (.int z) from hz]
  rw [e, hz]
theorem wt_of : ∀ {T : List Mt.Tri}, (T.map Mt.key).Nodup → ∀ t ∈ T, valV (wd T) (kk t) = some (.int t.2.2)
  | [], _, _, h => nomatch h
  | u :: T, hn, t, h => by
    obtain ⟨h1, h2⟩ := List.nodup_cons.mp hn
    by_cases e : kk u = kk t
    · have e' : Mt.key u = Mt.key t := inl_inj e
      rcases List.mem_cons.mp h with rfl | h
      · show ((wd (t :: T)).find? _).map _ = _
        unfold wd
        rw [List.map_cons, List.find?_cons_of_pos (by simp)]
        rfl
      · exact absurd (List.mem_map.mpr ⟨t, h, e'.symm⟩) h1
    · rcases List.mem_cons.mp h with rfl | h
      · exact absurd rfl e
      · have := wt_of h2 t h
        unfold valV at this ⊢
        unfold wd at this ⊢
        rw [List.map_cons, List.find?_cons_of_neg (by simpa using e)]
        exact this
theorem wt_key {T : List Mt.Tri} (hn : (T.map Mt.key).Nodup) : ∀ t ∈ T, wt T (Mt.key t) = t.2.2 := fun t h => by
  unfold wt
  rw [show valV (wd T) ((Mt.key t).map Sum.inl) = _ from wt_of hn t h]
/-- a Web of m points and the ties T stands at p -/
structure WebAt (C : Addr) (H : Hp) (p : Addr) (m : Int) (T : List Mt.Tri) : Prop where
  ex : ∃ (dx d l n : Addr) (fs : List (Str × V)) (qs : List Addr) (ks : List (List Int)), H p = some (.ins C dx fs) ∧ fs.lookup ("many" : Str) = some (.int m) ∧ fs.lookup ("weights" : Str) = some (.ref d) ∧ fs.lookup ("ties_sorted" : Str) = some (.ref l) ∧
    fs.lookup ("neighbours" : Str) = some (.ref n) ∧ (fs.lookup ("size" : Str) = none ∧ fs.lookup ("ties" : Str) = none ∧ fs.lookup ("weight" : Str) = none ∧ fs.lookup ("tied" : Str) = none) ∧ H d = some (.dT (wd T)) ∧ H l = some (.lst (qs.map V.ref)) ∧
    TupsH H qs (ks.map fun k => k ++ [wt T k]) ∧ NbAt H n m ks ∧ ks.Perm (T.map Mt.key) ∧ ks.Pairwise (fun a b => HT.lexLt b a = false) ∧ qs.length < 64
  m0 : 0 ≤ m
  m1 : m ≤ 24
  ok : Mt.scan m T [] = .good
theorem WebAt.same {C : Addr} {H H' : Hp} {p : Addr} {m : Int} {T : List Mt.Tri} (s : Same H H') (W : WebAt C H p m T) : WebAt C H' p m T := by
  obtain ⟨dx, d, l, n, fs, qs, ks, h1, h2, h3, h4, h5, h6, h7, h8, h9, h10, h11, h12, h13⟩ := W.ex
  exact ⟨⟨dx, d, l, n, fs, qs, ks, s _ _ h1, h2, h3, h4, h5, h6, s _ _ h7, s _ _ h8, TupsH.same s h9, h10.at' fun b xs e => s _ _ e, h11, h12, h13⟩, W.m0, W.m1, W.ok⟩
def spInit (C CT CB C2 : Addr) (K : PySem.W.Frag) : Sp := fun vs H Q E => ∃ (p : Addr) (m : Int) (l dx : Addr) (rs : List Addr) (T : List Mt.Tri), vs = [.ref p, .int m, .ref l] ∧ H p = some (.ins C dx []) ∧ RowsAt K H l rs T ∧ T.length < 64 ∧
  ((m < 0 ∨ 24 < m) → ∀ H', Same H H' → E (.ref CT) none H') ∧ (¬ (m < 0 ∨ 24 < m) →
    (Mt.scan m T [] = .bad → ∀ H', Same H H' → E (.ref CB) none H') ∧ (Mt.scan m T [] = .twice → ∀ H', Same H H' → E (.ref C2) none H') ∧
    (Mt.scan m T [] = .good → ∀ H', (∀ b o, H b = some o → b ≠ p → H' b = some o) → WebAt C H' p m T → Q .non H'))
theorem scInit : FnScope ["self", "many", "ties", "weights", "ends_sorted"] ["self", "many", "ties"] (defScope sInit) := ⟨rfl, rfl, rfl, by decide +kernel, rfl, by decide +kernel, by decide +kernel⟩
def compI : Scope := { kind := .function, names := [(Str.ofString ".0", .local), (Str.ofString "a", .local), (Str.ofString "b", .local), (Str.ofString "weights", .free)], isGenerator := false, isCoroutine := false, more := [] }
theorem nd_own2 : ([".0", "a", "b", "weights"] : List Str).Nodup := by decide +kernel
theorem capsI {CX : CXT} {f : Addr} {cdv : Value} {A : Around} {outer : List Env} {s : Shared} {H : Hp} {E : XK} :
    Caps (cxOf CX P w K mg base ["self", "many", "ties", "weights", "ends_sorted"] "Web.__init__" (defScope sInit) f cdv A outer s H E) compI [(Str.ofString "weights", s.heap.objs.size + 1)] [".0", "a", "b"] ["weights"] [3] := by
  have e1 : (cxOf CX P w K mg base ["self", "many", "ties", "weights", "ends_sorted"] "Web.__init__" (defScope sInit) f cdv A outer s H E).env.cells = [(Str.ofString "weights", s.heap.objs.size + 1)] := by rfl
  have e2 : (relabel compI (cxOf CX P w K mg base ["self", "many", "ties", "weights", "ends_sorted"] "Web.__init__" (defScope sInit) f cdv A outer s H E).env).names = [(Str.ofString ".0", .local), (Str.ofString "a", .local), (Str.ofString "b", .local), (Str.ofString "weights", .cell)] := by rfl
  refine ⟨rfl, fun x c h => by rw [e1]; exact h, rfl, by decide +kernel, by decide +kernel, fun x hx => ?_, rfl, fun i x e => ?_⟩
  · rw [e2] at hx
    have hx : x = Str.ofString "weights" := by
      rcases hx with hx | hx
      all_goals
        have := PySem.mem_of_lookup hx
        simpa using this
    subst hx
    exact ⟨_, rfl⟩
  · match i, e with
    | 0, e =>
      cases (Option.some.inj e)
      exact ⟨3, rfl, rfl, rfl, rfl, by rw [e2]; rfl⟩
    | n + 1, e => cases e
end
end K13

/-! ### k13: __init__ and ties -/
namespace K13
open PySem L2 PyProof.Rows
section
variable {P : Program} {w : World} {K : PySem.W.Frag} {mg : Str → Option Value} {base : Heap}
/-- what is asked of the class Web as the top has made it -/
structure TxtW (K : PySem.W.Frag) (mg : Str → Option Value) (C : Addr) : Prop where
  cl : Cls K C
  n1 : NoAttr K C "many"
  n2 : NoAttr K C "weights"
  n3 : NoAttr K C "ties_sorted"
  n4 : NoAttr K C "neighbours"
  mgC : mg "Web" = some (.ref C)
  srt : mg "sorted" = none
  lst : mg "list" = none
theorem s12 : ¬ (("many" : Str) = "ties_sorted") := by decide +kernel
theorem tk1 {H H' : Hp} {p : Addr} {C dx : Addr} {fs : List (Str × V)} (s : Same H H') (h : H p = some (.ins C dx fs)) : H' p = some (.ins C dx fs) := s p _ h
theorem ok_init {f fS fW fN C CT CB C2 : Addr} {fd fdS fdW fdN : FuncData} (F : Fun K "__init__" "Web.__init__" sInit f fd) (T0 : TxtW K mg C)
    (GS : FnOk P w K mg base (CXx P w) 1 fS fdS ["many"] (spSize CT)) (mS : mg "check_size" = some (.ref fS)) (kS : PySem.W.keepIn K (.ref fS) = true) (bS : Binds K fdS ["many"] [])
    (GW : FnOk P w K mg base (CXx P w) 2 fW fdW ["many", "ties"] (spWts CB C2 K)) (mW : mg "weights_of" = some (.ref fW)) (kW : PySem.W.keepIn K (.ref fW) = true) (bW : Binds K fdW ["many", "ties"] [])
    (GN : FnOk P w K mg base CX0 1 fN fdN ["many", "ends_sorted"] (spNb K)) (mN : mg "neighbours_of" = some (.ref fN)) (kN : PySem.W.keepIn K (.ref fN) = true) (bN : Binds K fdN ["many", "ends_sorted"] []) :
    FnOk P w K mg base (CXx P w) 3 f fd ["self", "many", "ties"] (spInit C CT CB C2 K) := by
  refine F.okX scInit (fun vs H Q E h => ?_) (fun cdv A outer s H vs Q E hr h => ?_)
  · obtain ⟨p, m, l, dx, rs, T, rfl, _⟩ := h
    rfl
  · obtain ⟨p, m, l, dx, rs, T, rfl, hp, R, h64, hT, hE⟩ := h
    have hu := hu_of hr
    have hr1 : Room 1 _ := hr.mono (by decide)
    refine ⟨_, pss_cons (ps_expr (pe_call GS hr1 rfl mS kS bS .nil passX (pa_cons (pv 1) pa_nil)))
      (pss_cons (ps_set (i := 3) scInit.nd rfl (Or.inr rfl) (pe_call GW hr rfl mW kW bW .nil passX (pa_cons (pv 1) (pa_cons (pv 2) pa_nil))))
      (pss_cons (ps_set (i := 4) scInit.nd rfl (Or.inl rfl) (pe_callB (call_sortedD rfl) (by rfl) T0.srt boot_sorted (pa_cons (pv 3) pa_nil)))
      (pss_cons (ps_fld (pv 0) (pv 1) rfl)
      (pss_cons (ps_fld (pv 0) (pv 3) rfl)
      (pss_cons (ps_fld (pv 0) (pe_comp (g := gTup K 2 (gCons (gName 1) (gCons (gName 2) gNil))) (own := [".0", "a", "b"]) (caps := ["weights"]) (js := [3]) rfl capsI (pi_list (pv 4))
          (fun pins C s H1 fp => pg_tup (n := 2) rfl (pgs_cons (pg_name (i := 1) nd_own2 rfl (Or.inl rfl) (Or.inr rfl)) (pgs_cons (pg_name (i := 2) nd_own2 rfl (Or.inl rfl) (Or.inr rfl)) pgs_nil)))
          (fun pins C s H1 fp => pts_nil)
          (fun pins C s H1 fp => pe_tup (pa_cons (pv 1) (pa_cons (pv 2) (pa_cons (pe_dget hu (pv 3) (pe_tup (pa_cons (pv 1) (pa_cons (pv 2) pa_nil))) (fun _ _ => rfl)) pa_nil))))) rfl)
      (pss_one (ps_fld (pv 0) (pe_call GN hr1 rfl mN kN bN .nil pass0 (pa_cons (pv 1) (pa_cons (pv 4) pa_nil))) rfl))))))), ?_⟩
    -- check_size(many)
    refine ⟨_, rfl, m, rfl, fun c => hT c H (Same.refl H), fun c => ?_⟩
    obtain ⟨hB, h2, hG⟩ := hE c
    -- weights = weights_of(many, ties)
    refine ⟨_, rfl, _, rfl, m, l, rs, T, rfl, R, by omega, hB, h2, fun sg d H1 hd s1 hd1 => ?_⟩
    obtain ⟨hnd, hnb⟩ := Mt.scan_good sg List.nodup_nil
    rw [List.nil_append] at hnd
    -- ends_sorted = sorted(weights)
    refine ⟨_, rfl, d, wd T, T.map Mt.key, rfl, hd1, ?_, ?_, ?_, fun qs qs' ks q hqs hS hq => ?_⟩
    · unfold wd; rw [List.map_map, List.map_map]; rfl
    · intro t ht
      obtain ⟨u, _, rfl⟩ := List.mem_map.mp ht
      exact fun z => by cases z
    · unfold wd; rw [List.length_map]; exact h64
    obtain ⟨hqs', hperm, hlen⟩ := hqs.sorted hS
    have lq : qs'.length = ks.length := Paired.length hqs'
    have lk : ks.length = T.length := by rw [hperm.length_eq, List.length_map]
    have kin : ∀ k ∈ ks, ∃ t ∈ T, Mt.key t = k := fun k hk => List.mem_map.mp (hperm.mem_iff.mp hk)
    have s2 : Same H1 (upd H1 q (.lst (qs'.map V.ref))) := Same.new hq
    have hp2 := tk1 s2 (tk1 s1 hp)
    have hd2 := s2 d _ hd1
    have hq2 : upd H1 q (.lst (qs'.map V.ref)) q = some (.lst (qs'.map V.ref)) := upd_same
    have npd : d ≠ p := ne_of hd2 hp2 (by intro z; cases z)
    have npq : q ≠ p := ne_of hq2 hp2 (by intro z; cases z)
    have hqsA := TupsH.same s2 hqs'
    generalize upd H1 q (.lst (qs'.map V.ref)) = H2 at s2 hp2 hd2 hq2 hqsA ⊢
    have s02 : Same H H2 := s1.trans s2
    -- self.many = many; self.weights = weights
    refine ⟨_, rfl, _, rfl, p, C, dx, _, rfl, hp2, T0.cl, T0.n1, (by show 0 < 1000; decide), ?_⟩
    refine ⟨_, rfl, _, rfl, p, C, dx, _, rfl, upd_same, T0.cl, T0.n2, Nat.lt_of_le_of_lt (putF_len _ _ _) (by show 0 + 1 < 1000; decide), ?_⟩
    rw [upd_upd]
    generalize hF : putF "weights" (V.ref d) (putF "many" (V.int m) []) = F2
    have lF : F2.length ≤ 2 := by
      rw [← hF]
      exact Nat.le_trans (putF_len _ _ _) (Nat.succ_le_succ (putF_len _ _ _))
    have k3 : ∀ b o, H2 b = some o → b ≠ p → upd H2 p (.ins C dx F2) b = some o := fun b o e n => by rw [upd_ne n]; exact e
    have tup3 : ∀ {qs : List Addr} {us : List (List Int)}, TupsH H2 qs us → TupsH (upd H2 p (.ins C dx F2)) qs us := fun {qs us} h =>
      zip_paired (Paired.length h) fun z hz => ⟨k3 _ _ (paired_zip h z hz).1 (ne_of (paired_zip h z hz).1 hp2 (by intro y; cases y)), (paired_zip h z hz).2⟩
    have hp3 : upd H2 p (.ins C dx F2) p = some (.ins C dx F2) := upd_same
    have hd3 := k3 d _ hd2 npd
    have hq3 := k3 q _ hq2 npq
    have hqs3 := tup3 hqsA
    generalize upd H2 p (.ins C dx F2) = H3 at k3 hp3 hd3 hq3 hqs3 ⊢
    -- self.ties_sorted = [...]
    refine ⟨_, rfl, q, rfl, ⟨_, SqL.of hq3⟩, fun D hD => ?_⟩
    refine turns_list (K := K) (a := q) (xs := qs'.map V.ref) (fun i ys σ H4 => ∃ (zs : List Addr) (e0 e1 e2 : Option V), ys = zs.map V.ref ∧ σ = [e0, e1, e2, some (.ref d)] ∧ Same H3 H4 ∧ H4 D = some (.lst ys) ∧
        TupsH H4 zs ((ks.take i).map fun k => k ++ [wt T k])) ⟨[], none, none, none, rfl, rfl, Same.new hD, upd_same, .nil⟩ ?_ ?_ ?_
    · rintro i ys σ H4 ⟨zs, e0, e1, e2, rfl, rfl, s4, hD4, hz⟩
      refine ⟨hD4, small1000 ?_, SqL.of (s4 q _ hq3)⟩
      have := Paired.length hz
      rw [List.length_map, List.length_take] at this
      rw [List.length_map]
      omega
    · rintro i x ys σ H4 hi ⟨zs, e0, e1, e2, rfl, rfl, s4, hD4, hz⟩
      have hil : i < qs'.length := by have := (List.getElem?_eq_some_iff.mp hi).1; rw [List.length_map] at this; exact this
      obtain ⟨r, rfl, er⟩ : ∃ r, x = V.ref r ∧ qs'[i]? = some r := by
        rw [List.getElem?_map] at hi
        cases y : qs'[i]? with
        | none => rw [y] at hi; cases hi
        | some r => rw [y] at hi; exact ⟨r, (Option.some.inj hi).symm, rfl⟩
      obtain ⟨k, ek, hk, _⟩ := Sx.pair_at (i := i) (a := r) hqs3 er
      obtain ⟨t, ht, rfl⟩ := kin k (List.mem_of_getElem? ek)
      refine ⟨r, _, rfl, SqT.of (s4 r _ hk), rfl, _, _, rfl, _, _, rfl, rfl, ?_⟩
      dsimp only
      refine yes_of ?_
      refine ⟨_, rfl, _, rfl, _, rfl, _, rfl, _, rfl, (by show 2 ≤ sizeLine; decide), fun y hy => ?_⟩
      have s5 : Same H4 (upd H4 y (.tup [.int (Mt.lo t.1 t.2.1), .int (Mt.hi t.1 t.2.1)])) := Same.new hy
      have hy5 : upd H4 y (.tup [.int (Mt.lo t.1 t.2.1), .int (Mt.hi t.1 t.2.1)]) y = some (.tup ((kk t).map kV)) := upd_same
      have hd5 := s5 d _ (s4 d _ hd3)
      refine ⟨d, .int (wt T (Mt.key t)), rfl, ?_, (by show 3 ≤ sizeLine; decide), fun z hz' => ?_⟩
      · have g := DGet.t (k := kk t) hd5 hy5
        rw [wt_val ht] at g
        exact g
      have s6 := s5.trans (Same.new (o := .tup [.int (Mt.lo t.1 t.2.1), .int (Mt.hi t.1 t.2.1), .int (wt T (Mt.key t))]) hz')
      have hD6 := s6 D _ hD4
      have hz6 : upd (upd H4 y (.tup [.int (Mt.lo t.1 t.2.1), .int (Mt.hi t.1 t.2.1)])) z (.tup [.int (Mt.lo t.1 t.2.1), .int (Mt.hi t.1 t.2.1), .int (wt T (Mt.key t))]) z = some (.tup [.int (Mt.lo t.1 t.2.1), .int (Mt.hi t.1 t.2.1), .int (wt T (Mt.key t))]) := upd_same
      refine ⟨hD6, Nxt.mk (by rw [List.length_map]; exact hil) ⟨zs ++ [z], _, _, _, by rw [List.map_append]; rfl, rfl, fun b o e => ?_, upd_same, ?_⟩⟩
      · rw [upd_ne (ne_of_none e hD)]
        exact s6 b o (s4 b o e)
      · have nt : ∀ {qs : List Addr} {us : List (List Int)} {L : List V}, TupsH H4 qs us → TupsH (upd (upd (upd H4 y (.tup [.int (Mt.lo t.1 t.2.1), .int (Mt.hi t.1 t.2.1)])) z (.tup [.int (Mt.lo t.1 t.2.1), .int (Mt.hi t.1 t.2.1), .int (wt T (Mt.key t))])) D (.lst L)) qs us := fun {qs us L} h =>
          zip_paired (Paired.length h) fun g hg => ⟨by rw [upd_ne (ne_of (paired_zip h g hg).1 hD4 (by intro y; cases y))]; exact s6 _ _ (paired_zip h g hg).1, (paired_zip h g hg).2⟩
        rw [List.take_succ, ek, List.map_append]
        refine paired_snoc (nt hz) ⟨?_, fun z => by cases z⟩
        rw [upd_ne (ne_of hz6 hD6 (by intro y; cases y))]
        exact hz6
    · rintro ys σ H4 ⟨zs, e0, e1, e2, rfl, rfl, s4, hD4, hz⟩
      rw [List.length_map, lq, List.take_length] at hz
      have lz := Paired.length hz
      rw [List.length_map] at lz
      have hp4 := s4 p _ hp3
      have npD : D ≠ p := ne_of hD4 hp4 (by intro z; cases z)
      refine ⟨_, rfl, p, C, dx, _, rfl, hp4, T0.cl, T0.n3, (by omega), ?_⟩
      generalize hF3 : putF "ties_sorted" (V.ref D) F2 = F3
      have lF3 : F3.length ≤ 3 := by
        rw [← hF3]
        exact Nat.le_trans (putF_len _ _ _) (Nat.succ_le_succ lF)
      have k5 : ∀ b o, H4 b = some o → b ≠ p → upd H4 p (.ins C dx F3) b = some o := fun b o e n => by rw [upd_ne n]; exact e
      have hq5 := k5 q _ (s4 q _ hq3) npq
      have hqs4 := TupsH.same s4 hqs3
      have tup5 : ∀ {qs : List Addr} {us : List (List Int)}, TupsH H4 qs us → TupsH (upd H4 p (.ins C dx F3)) qs us := fun {qs us} h =>
        zip_paired (Paired.length h) fun z hz => ⟨k5 _ _ (paired_zip h z hz).1 (ne_of (paired_zip h z hz).1 hp4 (by intro y; cases y)), (paired_zip h z hz).2⟩
      have hp5 : upd H4 p (.ins C dx F3) p = some (.ins C dx F3) := upd_same
      have hD5 := k5 D _ hD4 npD
      have hqs5 := tup5 hqs4
      have hz5 := tup5 hz
      -- self.neighbours = neighbours_of(many, ends_sorted)
      refine ⟨_, rfl, _, rfl, m, q, qs', ks, rfl, by omega, by omega, SqL.of hq5, hqs5, by omega, fun k hk => ?_, fun n H6 s6 nb6 => ?_⟩
      · obtain ⟨t, ht, rfl⟩ := kin k hk
        obtain ⟨r1, r2, r3⟩ := Mt.key_range (hnb t ht)
        exact ⟨_, _, rfl, r1, r2, r3⟩
      · have hp6 := s6 p _ hp5
        have hd6 := s6 d _ (k5 d _ (s4 d _ hd3) npd)
        refine ⟨_, rfl, p, C, dx, _, rfl, hp6, T0.cl, T0.n4, (by omega), ?_⟩
        have k7 : ∀ (fs : List (Str × V)) b o, H6 b = some o → b ≠ p → upd H6 p (.ins C dx fs) b = some o := fun fs b o e n => by rw [upd_ne n]; exact e
        refine hG sg _ (fun b o e n => ?_) ⟨⟨dx, d, D, n, _, zs, ks, upd_same, ?_, ?_, ?_, ?_, ⟨?_, ?_, ?_, ?_⟩, k7 _ d _ hd6 npd, k7 _ D _ (s6 D _ hD5) npD, ?_, nb6.at' fun b xs e => k7 _ b _ e (ne_of e hp6 (by intro z; cases z)), hperm, hS.ord, by omega⟩, by omega, by omega, sg⟩
        · exact k7 _ b o (s6 b o (k5 b o (s4 b o (k3 b o (s02 b o e) n)) n)) n
        · rw [lookup_putF, if_neg (by decide +kernel), ← hF3, lookup_putF, if_neg (by decide +kernel), ← hF, lookup_putF, if_neg (by decide +kernel), lookup_putF, if_pos rfl]
        · rw [lookup_putF, if_neg (by decide +kernel), ← hF3, lookup_putF, if_neg (by decide +kernel), ← hF, lookup_putF, if_pos rfl]
        · rw [lookup_putF, if_neg (by decide +kernel), ← hF3, lookup_putF, if_pos rfl]
        · rw [lookup_putF, if_pos rfl]
        iterate 4
          · rw [lookup_putF, if_neg (by decide +kernel), ← hF3, lookup_putF, if_neg (by decide +kernel), ← hF, lookup_putF, if_neg (by decide +kernel), lookup_putF, if_neg (by decide +kernel)]
            rfl
        · exact zip_paired (Paired.length hz5) fun z hz => ⟨k7 _ _ _ (s6 _ _ (paired_zip hz5 z hz).1) (ne_of (s6 _ _ (paired_zip hz5 z hz).1) hp6 (by intro y; cases y)), (paired_zip hz5 z hz).2⟩
/-! size, tied -/
def spMSize (C : Addr) : Sp := fun vs H Q _ => ∃ (p : Addr) (m : Int) (T : List Mt.Tri), vs = [.ref p] ∧ WebAt C H p m T ∧ Q (.int m) H
theorem scMSize : FnScope ["self"] ["self"] (defScope sMSize) := ⟨rfl, rfl, rfl, by decide +kernel, rfl, by decide +kernel, by decide +kernel⟩
theorem ok_msize {f C : Addr} {fd : FuncData} (F : Fun K "size" "Web.size" sMSize f fd) (T0 : TxtW K mg C) : FnOk P w K mg base CX0 1 f fd ["self"] (spMSize C) := by
  refine F.ok scMSize (fun vs H Q E h => ?_) (fun cdv A outer s H vs Q E hr h => ?_)
  · obtain ⟨p, m, T, rfl, _⟩ := h
    rfl
  · obtain ⟨p, m, T, rfl, W, hQ⟩ := h
    obtain ⟨dx, d, l, n, fs, qs, ks, h1, h2, _⟩ := W.ex
    refine ⟨_, pss_one (ps_ret (pe_fld (pv 0) rfl)), ?_⟩
    exact ⟨_, rfl, p, C, dx, _, _, rfl, h1, T0.cl, T0.n1, h2, hQ⟩
theorem key_tied {T : List Mt.Tri} {x y : Int} : (∃ t ∈ T, Mt.key t = [x, y]) ∨ (∃ t ∈ T, Mt.key t = [y, x]) ↔ G13.tied T x y := by
  have fwd : ∀ {t : Mt.Tri} {x y : Int}, Mt.key t = [x, y] → (t.1 = x ∧ t.2.1 = y) ∨ (t.1 = y ∧ t.2.1 = x) := fun {t x y} e => by
    unfold Mt.key at e
    injection e with e1 e2
    injection e2 with e2 _
    unfold Mt.lo at e1
    unfold Mt.hi at e2
    split at e1 <;> split at e2 <;> omega
  have bwd : ∀ {t : Mt.Tri} {x y : Int}, (t.1 = x ∧ t.2.1 = y) ∨ (t.1 = y ∧ t.2.1 = x) → Mt.key t = [x, y] ∨ Mt.key t = [y, x] := fun {t x y} e => by
    unfold Mt.key Mt.lo Mt.hi
    rcases e with ⟨rfl, rfl⟩ | ⟨rfl, rfl⟩
    · rcases Int.lt_trichotomy t.1 t.2.1 with q | q | q
      · left; rw [if_neg (by omega), if_pos (by omega)]
      · left; rw [if_neg (by omega), if_neg (by omega)]; rw [q]
      · right; rw [if_pos (by omega), if_neg (by omega)]
    · rcases Int.lt_trichotomy t.1 t.2.1 with q | q | q
      · right; rw [if_neg (by omega), if_pos (by omega)]
      · right; rw [if_neg (by omega), if_neg (by omega)]; rw [q]
      · left; rw [if_pos (by omega), if_neg (by omega)]
  constructor
  · rintro (⟨t, ht, e⟩ | ⟨t, ht, e⟩)
    · exact ⟨t, ht, fwd e⟩
    · exact ⟨t, ht, (fwd e).symm⟩
  · rintro ⟨t, ht, e⟩
    rcases bwd e with e | e
    · exact .inl ⟨t, ht, e⟩
    · exact .inr ⟨t, ht, e⟩
def spTied (C : Addr) : Sp := fun vs H Q _ => ∃ (p : Addr) (m : Int) (T : List Mt.Tri) (a : Int), vs = [.ref p, .int a] ∧ WebAt C H p m T ∧ 0 ≤ a ∧ a < m ∧
  ∀ (q : Addr) (ys : List Int), H q = none → (∀ y, y ∈ ys ↔ G13.tied T a y) → ys.length ≤ 126 → Q (.ref q) (upd H q (.lst (ys.map V.int)))
theorem scTied : FnScope ["self", "a"] ["self", "a"] (defScope sTied) := ⟨rfl, rfl, rfl, by decide +kernel, rfl, by decide +kernel, by decide +kernel⟩
theorem ok_tied {f C : Addr} {fd : FuncData} (F : Fun K "tied" "Web.tied" sTied f fd) (T0 : TxtW K mg C) : FnOk P w K mg base CX0 1 f fd ["self", "a"] (spTied C) := by
  refine F.ok scTied (fun vs H Q E h => ?_) (fun cdv A outer s H vs Q E hr h => ?_)
  · obtain ⟨p, m, T, a, rfl, _⟩ := h
    rfl
  · obtain ⟨p, m, T, a, rfl, W, a0, a1, hQ⟩ := h
    obtain ⟨dx, d, l, n, fs, qs, ks, h1, h2, h3, h4, h5, h6, h7, h8, h9, ⟨ps, n1, n2, n3⟩, h11, h12, h13⟩ := W.ex
    refine ⟨_, pss_one (ps_ret (pe_callTy call_list_of (by rfl) T0.lst boot_list (pa_cons (pe_ix ix_list (pe_fld (pv 0) rfl) (pv 1) (fun _ _ => rfl)) pa_nil))), ?_⟩
    have hz : a.toNat < ps.length := by omega
    have ez : ps[a.toNat]? = some ps[a.toNat] := by simp [hz]
    have ha := atI_nat (xs := ps.map V.ref) (j := a.toNat) (v := .ref ps[a.toNat]) (by simp [hz])
    rw [Int.toNat_of_nonneg a0] at ha
    have hn := n3 _ _ ez
    rw [Int.toNat_of_nonneg a0] at hn
    refine ⟨_, rfl, p, C, dx, _, _, rfl, h1, T0.cl, T0.n4, h5, _, rfl, n, _, _, _, rfl, rfl, SqL.of n1, ha, ps[a.toNat], _, rfl, .inl (SqL.of hn), fun q hq => ?_⟩
    refine hQ q _ hq (fun y => ?_) ?_
    · rw [mem_nbM, ← key_tied]
      constructor
      · rintro (e | e)
        · obtain ⟨t, ht, e⟩ := List.mem_map.mp (h11.mem_iff.mp e)
          exact .inl ⟨t, ht, e⟩
        · obtain ⟨t, ht, e⟩ := List.mem_map.mp (h11.mem_iff.mp e)
          exact .inr ⟨t, ht, e⟩
      · rintro (⟨t, ht, e⟩ | ⟨t, ht, e⟩)
        · exact .inl (h11.mem_iff.mpr (List.mem_map.mpr ⟨t, ht, e⟩))
        · exact .inr (h11.mem_iff.mpr (List.mem_map.mpr ⟨t, ht, e⟩))
    · have := nbM_len a ks
      have l1 := Paired.length h9
      rw [List.length_map] at l1
      omega
end
end K13

/-! ### k13: part_from -/
namespace G13
theorem len_le : ∀ {p l : List Int}, p.Nodup → (∀ y ∈ p, y ∈ l) → p.length ≤ l.length
  | [], _, _, _ => Nat.zero_le _
  | a :: r, l, hn, hs => by
    obtain ⟨h1, h2⟩ := List.nodup_cons.mp hn
    have ha := hs a (.head _)
    have := len_le (p := r) (l := l.erase a) h2 fun y hy => by
      have ne : y ≠ a := fun e => h1 (e ▸ hy)
      exact (List.mem_erase_of_ne ne).mpr (hs y (.tail _ hy))
    rw [List.length_erase_of_mem ha] at this
    have hp := List.length_pos_of_mem ha
    rw [List.length_cons]
    omega
theorem len_pts {p : List Int} {m : Int} (hn : p.Nodup) (h : ∀ y ∈ p, 0 ≤ y ∧ y < m) : p.length ≤ m.toNat := by
  have := len_le (l := pts m) hn fun y hy => mem_pts.mpr (h y hy)
  rw [pts_len] at this
  exact this
end G13
namespace Mt
theorem scan_points {m : Int} {T : List Tri} (h : scan m T [] = .good) : G13.good m T := fun t ht => by
  have := (scan_good h List.nodup_nil).2 t ht
  unfold bad at this
  omega
end Mt
namespace K13
open PySem L2 PyProof.Rows
section
variable {P : Program} {w : World} {K : PySem.W.Frag} {mg : Str → Option Value} {base : Heap}
theorem WebAt.at' {C : Addr} {H H' : Hp} {p : Addr} {m : Int} {T : List Mt.Tri} (W : WebAt C H p m T) (k : ∀ b o, H b = some o → (∀ kvs, o ≠ .dK kvs) → H' b = some o) : WebAt C H' p m T := by
  obtain ⟨dx, d, l, n, fs, qs, ks, h1, h2, h3, h4, h5, h6, h7, h8, h9, h10, h11, h12, h13⟩ := W.ex
  exact ⟨⟨dx, d, l, n, fs, qs, ks, k _ _ h1 (by intro _ z; cases z), h2, h3, h4, h5, h6, k _ _ h7 (by intro _ z; cases z), k _ _ h8 (by intro _ z; cases z), zip_paired (Paired.length h9) fun z hz => ⟨k _ _ (paired_zip h9 z hz).1 (by intro _ z; cases z), (paired_zip h9 z hz).2⟩,
    h10.at' fun b xs e => k _ _ e (by intro _ z; cases z), h11, h12, h13⟩, W.m0, W.m1, W.ok⟩
theorem WebAt.but {C : Addr} {H H' : Hp} {p dm : Addr} {m : Int} {T : List Mt.Tri} {kvs : List (Key × V)} (W : WebAt C H p m T) (hd : H dm = some (.dK kvs)) (k : ∀ b o, H b = some o → b ≠ dm → H' b = some o) : WebAt C H' p m T :=
  W.at' fun b o e n => k b o e fun z => by
    rw [z, hd] at e
    cases e
    exact n _ rfl
/-- the state of the search -/
structure Dfs (M : Int → Prop) (m : Int) (T : List Mt.Tri) (O : List Int) (st : Int) (L : Nat) (kvs : List (Key × V)) (pt ah : List Int) (x : Option Int) : Prop where
  keys : ∀ y, (valV kvs (Sum.inl y : Key)).isSome = true ↔ M y ∨ y ∈ pt
  len : kvs.length ≤ L + pt.length
  nd : pt.Nodup
  at_ : st ∈ pt
  ps : ∀ y ∈ pt, (0 ≤ y ∧ y < m) ∧ G13.Reach T O st y ∧ ¬ M y
  sub : ∀ y ∈ ah, y ∈ pt
  ahl : ah.length ≤ pt.length
  cl : ∀ z ∈ pt, z ∉ ah → x ≠ some z → ∀ y, G13.tied T z y → M y ∨ y ∈ pt
section
variable {M : Int → Prop} {m : Int} {T : List Mt.Tri} {O : List Int} {st : Int} {L : Nat} {kvs : List (Key × V)} {pt ah : List Int}
theorem Dfs.size {x : Option Int} (D : Dfs M m T O st L kvs pt ah x) : pt.length ≤ m.toNat := G13.len_pts D.nd fun y hy => (D.ps y hy).1
theorem putK_len {κ : Type} [DecidableEq κ] (kvs : List (κ × V)) (k : κ) (v : V) : (putK kvs k v).length ≤ kvs.length + 1 := by
  cases e : valV kvs k with
  | none => rw [putK_new v e, List.length_append]; exact Nat.le_refl _
  | some u =>
    unfold putK
    split
    · rw [List.length_map]; exact Nat.le_succ _
    · rw [List.length_append]; exact Nat.le_refl _
theorem Dfs.start (hk : ∀ y, (valV kvs (Sum.inl y : Key)).isSome = true ↔ M y) (h0 : 0 ≤ st) (h1 : st < m) (hn : ¬ M st) (v : V) : Dfs M m T O st kvs.length (putK kvs (Sum.inl st) v) [st] [st] none := by
  refine ⟨fun y => ?_, putK_len _ _ _, by simp, .head _, fun y hy => ?_, fun y hy => hy, Nat.le_refl _, fun z hz nz => absurd hz nz⟩
  · rw [valV_put, List.mem_singleton]
    by_cases e : y = st
    · subst e
      rw [if_pos rfl]
      exact ⟨fun _ => .inr rfl, fun _ => rfl⟩
    · rw [if_neg (fun z => e (Sum.inl.inj z)), hk]
      exact ⟨.inl, fun z => z.resolve_right e⟩
  · rw [List.mem_singleton] at hy
    subst hy
    exact ⟨⟨h0, h1⟩, .refl, hn⟩
/-- one is taken -/
theorem Dfs.pop {x : Int} (D : Dfs M m T O st L kvs pt ah none) (hl : ah[ah.length - 1]? = some x) : Dfs M m T O st L kvs pt ah.dropLast (some x) := by
  refine ⟨D.keys, D.len, D.nd, D.at_, D.ps, fun y hy => D.sub y ((List.dropLast_sublist ah).subset hy), Nat.le_trans (List.dropLast_sublist ah).length_le D.ahl, fun z hz nz ne => D.cl z hz (fun hm => ?_) (by simp)⟩
  have e : ah = ah.dropLast ++ [x] := by
    have hne : ah ≠ [] := fun q => by rw [q] at hl; cases hl
    have := List.dropLast_concat_getLast hne
    rw [List.getLast_eq_getElem] at this
    obtain ⟨h1, h2⟩ := List.getElem?_eq_some_iff.mp hl
    rw [h2] at this
    exact this.symm
  rw [e] at hm
  rcases List.mem_append.mp hm with q | q
  · exact nz q
  · rw [List.mem_singleton] at q
    exact ne (by rw [q])
/-- a new point -/
theorem Dfs.more {x y : Int} (D : Dfs M m T O st L kvs pt ah (some x)) (hx : x ∈ pt) (g : G13.good m T) (hO : ∀ y ∈ O, M y) (t : G13.tied T x y) (hy : valV kvs (Sum.inl y : Key) = none) (v : V) : Dfs M m T O st L (putK kvs (Sum.inl y) v) (pt ++ [y]) (ah ++ [y]) (some x) := by
  have nk : ¬ (M y ∨ y ∈ pt) := fun q => by
    have := (D.keys y).mpr q
    rw [hy] at this
    cases this
  have nM : ¬ M y := fun q => nk (.inl q)
  have np : y ∉ pt := fun q => nk (.inr q)
  refine ⟨fun z => ?_, ?_, ?_, List.mem_append_left _ D.at_, fun z hz => ?_, fun z hz => ?_, by rw [List.length_append, List.length_append]; exact Nat.succ_le_succ D.ahl, fun z hz nz ne w tw => ?_⟩
  · rw [valV_put, List.mem_append, List.mem_singleton]
    by_cases e : z = y
    · subst e
      rw [if_pos rfl]
      exact ⟨fun _ => .inr (.inr rfl), fun _ => rfl⟩
    · rw [if_neg (fun q => e (Sum.inl.inj q)), D.keys]
      exact ⟨fun q => q.imp id .inl, fun q => q.imp id fun q => q.resolve_right e⟩
  · have := putK_len kvs (Sum.inl y : Key) v
    have := D.len
    rw [List.length_append]
    show _ ≤ L + (pt.length + 1)
    omega
  · rw [List.nodup_append]
    refine ⟨D.nd, by simp, fun a ha b hb => ?_⟩
    rw [List.mem_singleton] at hb
    subst hb
    exact fun e => np (e ▸ ha)
  · rcases List.mem_append.mp hz with q | q
    · exact D.ps z q
    · rw [List.mem_singleton] at q
      subst q
      exact ⟨(G13.good_tied g t).2, .step (D.ps x hx).2.1 t (fun o => nM (hO _ o)), nM⟩
  · rcases List.mem_append.mp hz with q | q
    · exact List.mem_append_left _ (D.sub z q)
    · exact List.mem_append_right _ q
  · rcases List.mem_append.mp hz with q | q
    · rcases D.cl z q (fun k => nz (List.mem_append_left _ k)) ne w tw with k | k
      · exact .inl k
      · exact .inr (List.mem_append_left _ k)
    · exact absurd (List.mem_append_right _ q) nz
/-- all neighbours are looked at -/
theorem Dfs.shut {x : Int} (D : Dfs M m T O st L kvs pt ah (some x)) (h : ∀ y, G13.tied T x y → M y ∨ y ∈ pt) : Dfs M m T O st L kvs pt ah none :=
  ⟨D.keys, D.len, D.nd, D.at_, D.ps, D.sub, D.ahl, fun z hz nz _ y t => by
    by_cases e : x = z
    · subst e; exact h y t
    · exact D.cl z hz nz (fun q => e (Option.some.inj q)) y t⟩
/-- nothing is ahead: the part -/
theorem Dfs.done (D : Dfs M m T O st L kvs pt [] none) (hO : ∀ y ∈ O, M y) (hc : ∀ x y, M x → x ∉ O → G13.tied T x y → y ∉ O → M y) (hs : ¬ M st) : ∀ y, y ∈ pt ↔ y ∈ G13.comp m T O st :=
  G13.part_is hO hc hs D.at_ D.ps fun y hy z t => D.cl y hy (by simp) (by simp) z t
end
theorem tSeq_of {t u : TS} {D : Ends} {σ : L2.St} {H : Hp} (h : t { D with nx := u D } σ H) : tSeq t u D σ H := h
/-- the length of the list that a name holds -/
def lnAt (H : Hp) (o : Option V) : Nat := match o with
  | some (.ref p) => (match H p with | some (.lst xs) => xs.length | _ => 0)
  | _ => 0
theorem lnAt_of {H : Hp} {p : Addr} {xs : List V} (h : H p = some (.lst xs)) : lnAt H (some (.ref p)) = xs.length := by
  unfold lnAt
  dsimp only
  rw [h]
def spFrom (C : Addr) : Sp := fun vs H Q _ => ∃ (p dm : Addr) (st m : Int) (T : List Mt.Tri) (O : List Int) (M : Int → Prop) (kvs : List (Key × V)), vs = [.ref p, .int st, .ref dm] ∧ WebAt C H p m T ∧ H dm = some (.dK kvs) ∧ kvs.length ≤ 900 ∧
  (∀ y, (valV kvs (Sum.inl y : Key)).isSome = true ↔ M y) ∧ (∀ y ∈ O, M y) ∧ (∀ x y, M x → x ∉ O → G13.tied T x y → y ∉ O → M y) ∧ ¬ M st ∧ 0 ≤ st ∧ st < m ∧
  ∀ (l : Addr) (kvs' : List (Key × V)) (H' : Hp), H l = none → (∀ b o, H b = some o → b ≠ dm → H' b = some o) → H' dm = some (.dK kvs') → kvs'.length ≤ kvs.length + 24 →
    (∀ y, (valV kvs' (Sum.inl y : Key)).isSome = true ↔ M y ∨ y ∈ G13.comp m T O st) → H' l = some (.lst ((G13.comp m T O st).map V.int)) → Q (.ref l) H'
abbrev nmF : List Str := ["web", "start", "met", "part", "ahead", "point", "near"]
theorem scFrom : FnScope nmF ["web", "start", "met"] (defScope sFrom) := ⟨rfl, rfl, rfl, by decide +kernel, rfl, by decide +kernel, by decide +kernel⟩
theorem map_int_at {xs : List Int} {i : Nat} {v : V} (h : (xs.map V.int)[i]? = some v) : ∃ z, v = .int z ∧ xs[i]? = some z := by
  rw [List.getElem?_map] at h
  cases e : xs[i]? with
  | none => rw [e] at h; cases h
  | some z => rw [e] at h; exact ⟨z, (Option.some.inj h).symm, rfl⟩
theorem ok_from {f fT C : Addr} {fd fdT : FuncData} (F : Fun K "part_from" "part_from" sFrom f fd) (T0 : TxtW K mg C) (mT : Meth K C "tied" fT) (GT : FnOk P w K mg base CX0 1 fT fdT ["self", "a"] (spTied C)) (bT : Binds K fdT ["self", "a"] []) :
    FnOk P w K mg base CX0 2 f fd ["web", "start", "met"] (spFrom C) := by
  refine F.ok scFrom (fun vs H Q E h => ?_) (fun cdv A outer s H vs Q E hr h => ?_)
  · obtain ⟨p, dm, st, m, T, O, M, kvs, rfl, _⟩ := h
    rfl
  · obtain ⟨p, dm, st, m, T, O, M, kvs, rfl, W, hd, hl, hk, hO, hc, hs, s0, s1, hQ⟩ := h
    have hu := hu_of hr
    have g := Mt.scan_points W.ok
    have m1 := W.m1
    refine ⟨_, pss_cons (ps_dput hu (pv 2) (pv 1) pe_bl rfl)
      (pss_cons (ps_set (i := 3) scFrom.nd rfl (Or.inl rfl) (pe_lst (pa_cons (pv 1) pa_nil)))
      (pss_cons (ps_set (i := 4) scFrom.nd rfl (Or.inl rfl) (pe_lst (pa_cons (pv 1) pa_nil)))
      (pss_cons (ps_while PassesOwn.never (pt_truth (pv 4) (fun _ => rfl))
        (pss_cons (ps_set (i := 5) scFrom.nd rfl (Or.inl rfl) (pe_bm0 PySem.F.plainAttrs_list PySem.F.slot_list_pop PySem.F.type_list_pop mt_pop (pv 4)))
        (pss_one (ps_for PassesOwn.never rfl (pi_list (pe_meth (pv 0) T0.cl mT GT hr bT .nil pass0 (pa_cons (pv 5) pa_nil))) (pg_name (i := 6) scFrom.nd rfl (Or.inl rfl))
          (pss_one (ps_if (pt_cmp (pc_dnotin hu (pv 6) (pv 2)))
            (pss_cons (ps_dput hu (pv 2) (pv 6) pe_bl rfl)
            (pss_cons (ps_expr (pe_bm PySem.F.plainAttrs_list PySem.F.slot_list_append PySem.F.type_list_append mt_append (pv 3) (pa_cons (pv 6) pa_nil)))
            (pss_one (ps_expr (pe_bm PySem.F.plainAttrs_list PySem.F.slot_list_append PySem.F.type_list_append mt_append (pv 4) (pa_cons (pv 6) pa_nil))))))
            pss_nil))))))
      (pss_one (ps_ret (pe_callB call_sortedI (by rfl) T0.srt boot_sorted (pa_cons (pv 3) pa_nil))))))), ?_⟩
    -- met[start] = True
    refine ⟨_, rfl, _, rfl, dm, _, rfl, DPut.k (k := Sum.inl st) hd (small1000 (by omega)), ?_⟩
    -- part = [start]
    refine ⟨_, rfl, (by show 1 ≤ sizeLine; decide), fun lp hlp => ?_⟩
    -- ahead = [start]
    refine ⟨_, rfl, (by show 1 ≤ sizeLine; decide), fun la hla => ?_⟩
    have k1 : ∀ b o, H b = some o → b ≠ dm → upd H dm (.dK (putK kvs (Sum.inl st) (.bl true))) b = some o := fun b o e n => by rw [upd_ne n]; exact e
    have d1 : upd H dm (.dK (putK kvs (Sum.inl st) (.bl true))) dm = some (.dK (putK kvs (Sum.inl st) (.bl true))) := upd_same
    have npd : lp ≠ dm := fun z => by rw [z, d1] at hlp; cases hlp
    have fp : H lp = none := by rw [upd_ne npd] at hlp; exact hlp
    have p2 : upd (upd H dm (.dK (putK kvs (Sum.inl st) (.bl true)))) lp (.lst [.int st]) lp = some (.lst [.int st]) := upd_same
    have nap : la ≠ lp := fun z => by rw [z, p2] at hla; cases hla
    have d2 : upd (upd H dm (.dK (putK kvs (Sum.inl st) (.bl true)))) lp (.lst [.int st]) dm = some (.dK (putK kvs (Sum.inl st) (.bl true))) := by rw [upd_ne npd.symm]; exact d1
    have nad : la ≠ dm := fun z => by rw [z, d2] at hla; cases hla
    have fa : H la = none := by rw [upd_ne nap, upd_ne nad] at hla; exact hla
    dsimp only [gName]
    refine tSeq_of ?_
    refine while_by (fun σ H2 => ∃ (kv2 : List (Key × V)) (pt ah : List Int) (e5 e6 : Option V), σ = [some (.ref p), some (.int st), some (.ref dm), some (.ref lp), some (.ref la), e5, e6] ∧ (∀ b o, H b = some o → b ≠ dm → H2 b = some o) ∧ H2 dm = some (.dK kv2) ∧
        H2 lp = some (.lst (pt.map V.int)) ∧ H2 la = some (.lst (ah.map V.int)) ∧ Dfs M m T O st kvs.length kv2 pt ah none)
      (fun σ H2 => 2 * (24 - lnAt H2 ((σ[3]?).getD none)) + lnAt H2 ((σ[4]?).getD none))
      ⟨_, [st], [st], none, none, rfl, fun b o e n => ?_, ?_, ?_, upd_same, Dfs.start hk s0 s1 hs (.bl true)⟩ ?_ (fun σ H Q Q' hq ⟨v, e, k, tv, q⟩ => ⟨v, e, k, tv, hq _ _ q⟩)
    · rw [upd_ne (ne_of_none e fa), upd_ne (ne_of_none e fp)]
      exact k1 b o e n
    · rw [upd_ne nad.symm]; exact d2
    · rw [upd_ne nap.symm]; exact p2
    rintro σ H2 ⟨kv2, pt, ah, e5, e6, rfl, k2, hd2, hp2, ha2, D⟩
    refine ⟨_, rfl, _, .inl ⟨_, SqL.of ha2, rfl⟩, ?_⟩
    refine ite2 (fun c => ?_) (fun c => ?_)
    · -- point = ahead.pop()
      have hne : ah ≠ [] := fun z => by rw [z] at c; cases c
      have hlen : 0 < ah.length := List.length_pos_iff.mpr hne
      have hlx : ah[ah.length - 1]? = some (ah[ah.length - 1]'(by omega)) := by simp
      generalize (ah[ah.length - 1]'(by omega)) = x at hlx
      have hx : x ∈ pt := D.sub x (List.mem_of_getElem? hlx)
      obtain ⟨⟨x0, x1⟩, _, _⟩ := D.ps x hx
      have D1 := D.pop hlx
      have hpop : (ah.map V.int)[(ah.map V.int).length - 1]? = some (V.int x) := by rw [List.length_map, List.getElem?_map, hlx]; rfl
      have edl : (ah.map V.int).dropLast = ah.dropLast.map V.int := (List.map_dropLast).symm
      refine ⟨_, rfl, .inl ⟨rfl, _, SqL.of ha2⟩, la, _, _, rfl, rfl, ha2, hpop, ?_⟩
      rw [edl]
      have hd3 : upd H2 la (.lst (ah.dropLast.map V.int)) dm = some (.dK kv2) := by rw [upd_ne nad.symm]; exact hd2
      have hp3 : upd H2 la (.lst (ah.dropLast.map V.int)) lp = some (.lst (pt.map V.int)) := by rw [upd_ne nap.symm]; exact hp2
      have ha3 : upd H2 la (.lst (ah.dropLast.map V.int)) la = some (.lst (ah.dropLast.map V.int)) := upd_same
      have k3 : ∀ b o, H b = some o → b ≠ dm → upd H2 la (.lst (ah.dropLast.map V.int)) b = some o := fun b o e n => by rw [upd_ne (ne_of_none e fa)]; exact k2 b o e n
      have hmu : 2 * (24 - lnAt H2 (some (.ref lp))) + lnAt H2 (some (.ref la)) = 2 * (24 - pt.length) + ah.length := by rw [lnAt_of hp2, lnAt_of ha2, List.length_map, List.length_map]
      generalize upd H2 la (.lst (ah.dropLast.map V.int)) = H3 at hd3 hp3 ha3 k3 ⊢
      have W3 := W.but hd k3
      obtain ⟨dx, d, l, n, fs, qs, ks, w1, w2, w3, w4, w5, ⟨w6, w7, w8, w9⟩, _⟩ := id W3.ex
      -- for near in web.tied(point)
      refine ⟨_, rfl, p, dx, fs, rfl, w1, w9, _, rfl, p, m, T, x, rfl, W3, x0, x1, fun q ys hq hys hyl => ?_⟩
      have ndq : dm ≠ q := ne_of_none hd3 hq
      have npq : lp ≠ q := ne_of_none hp3 hq
      have naq : la ≠ q := ne_of_none ha3 hq
      have fq : H q = none := by
        cases e : H q with
        | none => rfl
        | some o =>
          have := k3 q o e ndq.symm
          rw [hq] at this; cases this
      refine ⟨q, rfl, ⟨_, SqL.of upd_same⟩, for_list (K := K) (a := q) (xs := ys.map V.int)
        (fun i σ H4 => ∃ (kv4 : List (Key × V)) (pt4 ah4 : List Int) (e6 : Option V), σ = [some (.ref p), some (.int st), some (.ref dm), some (.ref lp), some (.ref la), some (.int x), e6] ∧ (∀ b o, H b = some o → b ≠ dm → H4 b = some o) ∧ H4 dm = some (.dK kv4) ∧
          H4 lp = some (.lst (pt4.map V.int)) ∧ H4 la = some (.lst (ah4.map V.int)) ∧ H4 q = some (.lst (ys.map V.int)) ∧ x ∈ pt4 ∧ Dfs M m T O st kvs.length kv4 pt4 ah4 (some x) ∧ (∀ y ∈ ys.take i, M y ∨ y ∈ pt4) ∧ ah4.length + pt.length + 1 = ah.length + pt4.length ∧ pt.length ≤ pt4.length)
        ⟨kv2, pt, ah.dropLast, e6, rfl, fun b o e n => ?_, ?_, ?_, ?_, upd_same, hx, D1, fun y hy => by simp at hy, ?_, Nat.le_refl _⟩ (fun i σ H4 _ ⟨_, _, _, _, _, _, _, _, _, h, _⟩ => SqL.of h) ?_ ?_⟩
      · rw [upd_ne (ne_of_none e fq)]; exact k3 b o e n
      · rw [upd_ne ndq]; exact hd3
      · rw [upd_ne npq]; exact hp3
      · rw [upd_ne naq]; exact ha3
      · rw [List.length_dropLast]; omega
      · rintro i v σ H4 hi ⟨kv4, pt4, ah4, e6, rfl, k4, hd4, hp4, ha4, hq4, hx4, D4, hy4, hl4, hpp⟩
        obtain ⟨y, rfl, ey⟩ := map_int_at hi
        have ty : G13.tied T x y := (hys y).mp (List.mem_of_getElem? ey)
        have etk : ys.take (i + 1) = ys.take i ++ [y] := by rw [List.take_succ, ey]; rfl
        have sz := D4.size
        have ln4 := D4.len
        refine ⟨_, rfl, _, rfl, dm, _, rfl, DGet.k (k := Sum.inl y) hd4, _, rfl, ?_⟩
        cases e : valV kv4 (Sum.inl y : Key) with
        | none =>
          refine iteT ?_
          have D5 := D4.more hx4 g hO ty e (.bl true)
          have sz5 := D5.size
          have hl5 : ah4.length ≤ 100 := by have := D4.ahl; omega
          refine ⟨_, rfl, _, rfl, dm, _, rfl, DPut.k (k := Sum.inl y) hd4 (small1000 (by omega)), ?_⟩
          have hp5 : upd H4 dm (.dK (putK kv4 (Sum.inl y) (.bl true))) lp = some (.lst (pt4.map V.int)) := by rw [upd_ne npd]; exact hp4
          refine ⟨_, rfl, .inl ⟨rfl, _, SqL.of hp5⟩, _, rfl, lp, _, _, rfl, rfl, hp5, small1000 (by rw [List.length_map]; omega), ?_⟩
          have ha6 : upd (upd H4 dm (.dK (putK kv4 (Sum.inl y) (.bl true)))) lp (.lst (pt4.map V.int ++ [.int y])) la = some (.lst (ah4.map V.int)) := by rw [upd_ne nap, upd_ne nad]; exact ha4
          refine ⟨_, rfl, .inl ⟨rfl, _, SqL.of ha6⟩, _, rfl, la, _, _, rfl, rfl, ha6, small1000 (by rw [List.length_map]; omega), ?_⟩
          refine ⟨_, pt4 ++ [y], ah4 ++ [y], _, rfl, fun b o e n => ?_, ?_, ?_, ?_, ?_, List.mem_append_left _ hx4, D5, fun z hz => ?_, ?_, by rw [List.length_append]; omega⟩
          · rw [upd_ne (ne_of_none e fa), upd_ne (ne_of_none e fp), upd_ne n]
            exact k4 b o e n
          · rw [upd_ne nad.symm, upd_ne npd.symm, upd_same]
          · rw [upd_ne nap.symm, upd_same, List.map_append]; rfl
          · rw [upd_same, List.map_append]; rfl
          · rw [upd_ne naq.symm, upd_ne npq.symm, upd_ne ndq.symm]; exact hq4
          · rw [etk] at hz
            rcases List.mem_append.mp hz with q' | q'
            · rcases hy4 z q' with r | r
              · exact .inl r
              · exact .inr (List.mem_append_left _ r)
            · exact .inr (List.mem_append_right _ q')
          · rw [List.length_append, List.length_append]
            show ah4.length + 1 + pt.length + 1 = ah.length + (pt4.length + 1)
            omega
        | some v =>
          refine iteF ?_
          refine ⟨kv4, pt4, ah4, _, rfl, k4, hd4, hp4, ha4, hq4, hx4, D4, fun z hz => ?_, hl4, hpp⟩
          rw [etk] at hz
          rcases List.mem_append.mp hz with q' | q'
          · exact hy4 z q'
          · rw [List.mem_singleton] at q'
            subst q'
            exact (D4.keys z).mp (by rw [e]; rfl)
      · rintro σ H4 ⟨kv4, pt4, ah4, e6', rfl, k4, hd4, hp4, ha4, hq4, hx4, D4, hy4, hl4, hpp⟩
        rw [List.length_map, List.take_length] at hy4
        have D5 := D4.shut fun y t => hy4 y ((hys y).mpr t)
        have szp := D.size
        have sz := D5.size
        refine ⟨⟨kv4, pt4, ah4, _, _, rfl, k4, hd4, hp4, ha4, D5⟩, ?_⟩
        show 2 * (24 - lnAt H4 (some (.ref lp))) + lnAt H4 (some (.ref la)) < 2 * (24 - lnAt H2 (some (.ref lp))) + lnAt H2 (some (.ref la))
        rw [hmu, lnAt_of hp4, lnAt_of ha4, List.length_map, List.length_map]
        omega
    · -- return sorted(part)
      have he : ah = [] := by
        cases ah with
        | nil => rfl
        | cons a r => exact absurd rfl c
      subst he
      have sz := D.size
      refine ⟨_, rfl, lp, pt, rfl, SqL.of hp2, by omega, fun t' q ht hst hq => ?_⟩
      have ec : t' = G13.comp m T O st := G13.sorted_is ht hst D.nd G13.comp_lt (D.done hO hc hs)
      subst ec
      have ln := D.len
      have fq : H q = none := by
        cases e : H q with
        | none => rfl
        | some o =>
          by_cases z : q = dm
          · rw [z, hd2] at hq; cases hq
          · have := k2 q o e z
            rw [hq] at this; cases this
      refine hQ q kv2 _ fq (fun b o e n => ?_) ?_ (by omega) (fun y => ?_) upd_same
      · rw [upd_ne (ne_of_none e fq)]; exact k2 b o e n
      · rw [upd_ne (ne_of_none hd2 hq)]; exact hd2
      · rw [D.keys, D.done hO hc hs]
end
end K13

/-! ### k13: parts, odd_parts -/
namespace K13
open PySem L2 PyProof.Rows
theorem LsH.same {H H' : Hp} (s : Same H H') {rs : List Addr} {ts : List (List Int)} (h : LsH H rs ts) : LsH H' rs ts := zip_paired (Paired.length h) fun z hz => s _ _ (paired_zip h z hz)
theorem LsH.at' {H H' : Hp} {rs : List Addr} {ts : List (List Int)} (h : LsH H rs ts) (k : ∀ b ∈ rs, ∀ o, H b = some o → H' b = some o) : LsH H' rs ts := zip_paired (Paired.length h) fun z hz => k _ (List.of_mem_zip hz).1 _ (paired_zip h z hz)
/-! rules whose reading names the written part itself: they stand in a comprehension -/
def rLen (K : PySem.W.Frag) : List V → Hp → VK → Prop := fun xs H Q => ∃ (p : Addr) (ys : List V), xs = [.ref p] ∧ (SqL K H p ys ∨ SqT K H p ys) ∧ Q (.int ys.length) H
theorem call_lenK {X : Cx} (K : PySem.W.Frag) (h : X.K = K) : CallR X (.builtin "len") (rLen K) := by subst h; exact call_len_seq
def rLst (K : PySem.W.Frag) : List V → Hp → VK → Prop := fun xs H Q => ∃ (p : Addr) (ys : List V), xs = [.ref p] ∧ (SqL K H p ys ∨ SqT K H p ys) ∧ ∀ l, H l = none → Q (.ref l) (upd H l (.lst ys))
theorem call_listK {X : Cx} (K : PySem.W.Frag) (h : X.K = K) : CallR X (.type "list") (rLst K) := by subst h; exact call_list_of
theorem ix_listK {X : Cx} (K : PySem.W.Frag) (h : X.K = K) : IxR X (rIxL K) := by subst h; exact ix_list
theorem op_notInK {X : Cx} (K : PySem.W.Frag) (h : X.K = K) : OpR X (compareOp .NotIn) (rIn K true) := by subst h; exact op_notIn_seq
section
variable {P : Program} {w : World} {K : PySem.W.Frag} {mg : Str → Option Value} {base : Heap}
def spParts (C : Addr) (K : PySem.W.Frag) : Sp := fun vs H Q _ => ∃ (p o : Addr) (m : Int) (T : List Mt.Tri) (O : List Int), vs = [.ref p, .ref o] ∧ WebAt C H p m T ∧ SqL K H o (O.map V.int) ∧ O.length ≤ 64 ∧
  ∀ (l : Addr) (qs : List Addr) (H' : Hp), Same H H' → H l = none → (∀ q ∈ qs, H q = none ∧ q ≠ l) → H' l = some (.lst (qs.map V.ref)) → LsH H' qs (G13.partsTo m T O m) → Q (.ref l) H'
abbrev nmP : List Str := ["web", "out", "met", "point", "found"]
theorem scParts : FnScope nmP ["web", "out"] (defScope sParts) := ⟨rfl, rfl, rfl, by decide +kernel, rfl, by decide +kernel, by decide +kernel⟩
theorem ok_parts {f fF fS C : Addr} {fd fdF fdS : FuncData} (F : Fun K "parts" "parts" sParts f fd) (T0 : TxtW K mg C) (grange : mg "range" = none)
    (GF : FnOk P w K mg base CX0 2 fF fdF ["web", "start", "met"] (spFrom C)) (mF : mg "part_from" = some (.ref fF)) (kF : PySem.W.keepIn K (.ref fF) = true) (bF : Binds K fdF ["web", "start", "met"] [])
    (mS : Meth K C "size" fS) (GS : FnOk P w K mg base CX0 1 fS fdS ["self"] (spMSize C)) (bS : Binds K fdS ["self"] []) : FnOk P w K mg base CX0 3 f fd ["web", "out"] (spParts C K) := by
  refine F.ok scParts (fun vs H Q E h => ?_) (fun cdv A outer s H vs Q E hr h => ?_)
  · obtain ⟨p, o, m, T, O, rfl, _⟩ := h
    rfl
  · obtain ⟨p, o, m, T, O, rfl, W, hS, hO, hQ⟩ := h
    have hu := hu_of hr
    have hr1 : Room 1 _ := hr.mono (by decide)
    have g := Mt.scan_points W.ok
    have m0 := W.m0
    have m1 := W.m1
    refine ⟨_, pss_cons (ps_set (i := 2) scParts.nd rfl (Or.inl rfl) pe_dnewK)
      (pss_cons (ps_for PassesOwn.never rfl (pi_list (pv 1)) (pg_name (i := 3) scParts.nd rfl (Or.inl rfl)) (pss_one (ps_dput hu (pv 2) (pv 3) pe_bl rfl)))
      (pss_cons (ps_set (i := 4) scParts.nd rfl (Or.inl rfl) (pe_lst pa_nil))
      (pss_cons (ps_for PassesOwn.never rfl (pi_range1 rfl grange (pa_cons (pe_meth0 (pv 0) T0.cl mS GS hr1 bS .nil pass0) pa_nil)) (pg_name (i := 3) scParts.nd rfl (Or.inl rfl))
        (pss_one (ps_if (pt_cmp (pc_dnotin hu (pv 3) (pv 2)))
          (pss_one (ps_expr (pe_bm PySem.F.plainAttrs_list PySem.F.slot_list_append PySem.F.type_list_append mt_append (pv 4) (pa_cons (pe_call GF hr rfl mF kF bF .nil pass0 (pa_cons (pv 0) (pa_cons (pv 3) (pa_cons (pv 2) pa_nil)))) pa_nil))))
          pss_nil)))
      (pss_one (ps_ret (pv 4)))))), ?_⟩
    intro dm hdm
    have s1 : Same H (upd H dm (.dK [])) := Same.new hdm
    refine ⟨_, rfl, o, rfl, ⟨_, s1.seq hS⟩, for_list (K := K) (a := o) (xs := O.map V.int)
      (fun i σ H2 => ∃ (kvs : List (Key × V)) (e3 : Option V), σ = [some (.ref p), some (.ref o), some (.ref dm), e3, none] ∧ Same H H2 ∧ H2 dm = some (.dK kvs) ∧ kvs.length ≤ i ∧ ∀ y, (valV kvs (Sum.inl y : Key)).isSome = true ↔ y ∈ O.take i)
      ⟨[], none, rfl, s1, upd_same, Nat.le_refl _, fun y => by rw [List.take_zero]; exact ⟨fun z => (by cases z), fun z => (by cases z)⟩⟩ (fun i σ H2 _ ⟨_, _, _, s2, _⟩ => s2.seq hS) ?_ ?_⟩
    · rintro i v σ H2 hi ⟨kvs, e3, rfl, s2, hd2, hl2, hk⟩
      obtain ⟨y, rfl, ey⟩ := map_int_at hi
      have hil : i < O.length := (List.getElem?_eq_some_iff.mp ey).1
      refine ⟨_, rfl, _, rfl, dm, _, rfl, DPut.k (k := Sum.inl y) hd2 (small1000 (by omega)), ?_⟩
      refine ⟨_, _, rfl, fun b u e => ?_, upd_same, Nat.le_trans (putK_len _ _ _) (Nat.succ_le_succ hl2), fun z => ?_⟩
      · rw [upd_ne (ne_of_none e hdm)]; exact s2 b u e
      · have etk : O.take (i + 1) = O.take i ++ [y] := by rw [List.take_succ, ey]; rfl
        rw [valV_put, etk, List.mem_append, List.mem_singleton]
        by_cases e : z = y
        · subst e
          rw [if_pos rfl]
          exact ⟨fun _ => .inr rfl, fun _ => rfl⟩
        · rw [if_neg (fun q => e (Sum.inl.inj q)), hk]
          exact ⟨.inl, fun q => q.resolve_right e⟩
    · rintro σ H2 ⟨kvs, e3, rfl, s2, hd2, hl2, hk⟩
      rw [List.length_map] at hl2 hk
      rw [List.take_length] at hk
      refine ⟨Nat.zero_le _, fun lf hlf => ?_⟩
      have ndf : dm ≠ lf := ne_of_none hd2 hlf
      have ff : H lf = none := s2.free hlf
      have s3 : Same H (upd H2 lf (.lst [])) := s2.trans (Same.new hlf)
      have hd3 : upd H2 lf (.lst []) dm = some (.dK kvs) := by rw [upd_ne ndf]; exact hd2
      have hf3 : upd H2 lf (.lst []) lf = some (.lst []) := upd_same
      dsimp only
      show tSeq _ _ _ _ (upd H2 lf (.lst []))
      generalize upd H2 lf (.lst []) = H3 at s3 hd3 hf3 ⊢
      have W3 := W.same s3
      obtain ⟨dx, d, l, n, fs, qs, ks, w1, w2, w3, w4, w5, ⟨w6, w7, w8, w9⟩, _⟩ := id W3.ex
      refine ⟨_, rfl, p, dx, fs, rfl, w1, w6, p, m, T, rfl, W3, m, rfl, by omega, by omega, for_range (lo := 0) (n := m.toNat)
        (fun i σ H4 => ∃ (kv4 : List (Key × V)) (qs : List Addr) (e3 : Option V), σ = [some (.ref p), some (.ref o), some (.ref dm), e3, some (.ref lf)] ∧ Same H H4 ∧ H4 dm = some (.dK kv4) ∧ kv4.length ≤ 64 + 24 * i ∧
          (∀ y, (valV kv4 (Sum.inl y : Key)).isSome = true ↔ G13.met m T O i y) ∧ H4 lf = some (.lst (qs.map V.ref)) ∧ LsH H4 qs (G13.partsTo m T O i) ∧ ∀ q ∈ qs, H q = none ∧ q ≠ lf)
        ⟨kvs, [], e3, rfl, s3, hd3, by omega, fun y => by rw [hk]; exact G13.met_zero.symm, hf3, by rw [show ((0 : Nat) : Int) = 0 from rfl, G13.parts_zero]; exact .nil, fun q hq => by cases hq⟩ ?_ ?_⟩
      · rintro i σ H4 hi ⟨kv4, qs, e3, rfl, s4, hd4, hl4, hk4, hf4, hL4, hq4⟩
        have i0 : (0 : Int) ≤ i := by omega
        have i1 : (i : Int) < m := by omega
        have ei : ((i + 1 : Nat) : Int) = (i : Int) + 1 := by omega
        rw [show (0 : Int) + (i : Int) = (i : Int) by omega]
        refine ⟨_, rfl, _, rfl, dm, _, rfl, DGet.k (k := Sum.inl (i : Int)) hd4, _, rfl, ?_⟩
        cases e : valV kv4 (Sum.inl (i : Int) : Key) with
        | none =>
          refine iteT ?_
          have nm : ¬ G13.met m T O i i := fun z => by
            have := (hk4 i).mpr z
            rw [e] at this; cases this
          have fi := (G13.met_iff i0 i1).mp nm
          refine ⟨_, rfl, .inl ⟨rfl, _, SqL.of hf4⟩, _, rfl, _, rfl, _, rfl, ?_⟩
          refine ⟨p, dm, i, m, T, O, G13.met m T O i, kv4, rfl, W.same s4, hd4, by omega, hk4, fun y hy => .inl hy, fun x y h1 h2 h3 h4 => G13.met_closed g h1 h2 h3 h4, nm, i0, i1, fun l kv5 H5 hl5 k5 hd5 hlen5 hk5 hl => ?_⟩
          have nfd : lf ≠ dm := ndf.symm
          have hf5 := k5 lf _ hf4 nfd
          have nlf : lf ≠ l := ne_of_none hf4 hl5
          have fl : H l = none := s4.free hl5
          have ndl : dm ≠ l := ne_of_none hd4 hl5
          have lqs := Paired.length hL4
          have lps := G13.parts_len (m := m) (T := T) (O := O) (i := i)
          refine ⟨lf, _, _, rfl, rfl, hf5, small1000 (by rw [List.length_map]; omega), ?_⟩
          refine ⟨kv5, qs ++ [l], _, rfl, fun b u eb => ?_, ?_, by omega, fun y => ?_, by rw [upd_same, List.map_append]; rfl, ?_, fun q hq => ?_⟩
          · rw [upd_ne (ne_of_none eb ff)]
            exact k5 b u (s4 b u eb) (ne_of_none eb hdm)
          · rw [upd_ne ndf]; exact hd5
          · rw [hk5, ei, G13.met_succ i0]
            exact ⟨fun q => q.imp id fun q => ⟨fi, q⟩, fun q => q.imp id fun q => q.2⟩
          · rw [ei, G13.parts_yes i0 fi]
            refine paired_snoc (LsH.at' hL4 fun b hb u eb => ?_) ?_
            · obtain ⟨nb, nbf⟩ := hq4 b hb
              rw [upd_ne nbf]
              refine k5 b u eb fun z => ?_
              obtain ⟨j, hj, ej⟩ := List.getElem_of_mem hb
              obtain ⟨t, _, ht⟩ := Sx.pair_at (i := j) (a := b) hL4 (by rw [← ej]; simp [hj])
              rw [z, hd4] at ht
              cases ht
            · rw [upd_ne nlf.symm]; exact hl
          · rcases List.mem_append.mp hq with z | z
            · exact hq4 q z
            · rw [List.mem_singleton] at z
              subst z
              exact ⟨fl, nlf.symm⟩
        | some v =>
          refine iteF ?_
          have mi : G13.met m T O i i := (hk4 i).mp (by rw [e]; rfl)
          have nf : ¬ G13.first T O i := fun z => (G13.met_iff i0 i1).mpr z mi
          refine ⟨kv4, qs, _, rfl, s4, hd4, by omega, fun y => ?_, hf4, ?_, hq4⟩
          · rw [hk4, ei, G13.met_succ i0]
            exact ⟨.inl, fun q => q.resolve_right fun z => nf z.1⟩
          · rw [ei, G13.parts_no i0 nf]; exact hL4
      · rintro σ H4 ⟨kv4, qs, e3, rfl, s4, hd4, hl4, hk4, hf4, hL4, hq4⟩
        rw [Int.toNat_of_nonneg m0] at hL4
        exact ⟨_, rfl, hQ lf qs H4 s4 ff hq4 hf4 hL4⟩
/-! odd_parts -/
noncomputable def oddsOf (m : Int) (T : List Mt.Tri) (O : List Int) : List (List Int) := (G13.partsTo m T O m).filter fun c => c.length % 2 == 1
def spOdd (C : Addr) (K : PySem.W.Frag) : Sp := fun vs H Q _ => ∃ (p o : Addr) (m : Int) (T : List Mt.Tri) (O : List Int), vs = [.ref p, .ref o] ∧ WebAt C H p m T ∧ SqL K H o (O.map V.int) ∧ O.length ≤ 64 ∧
  ∀ (l : Addr) (qs : List Addr) (H' : Hp), Same H H' → H l = none → (∀ q ∈ qs, H q = none) → H' l = some (.lst (qs.map V.ref)) → LsH H' qs (oddsOf m T O) → Q (.ref l) H'
theorem scOdd : FnScope ["web", "out"] ["web", "out"] (defScope sOdd) := ⟨rfl, rfl, rfl, by decide +kernel, rfl, by decide +kernel, by decide +kernel⟩
theorem nd_own1p : ([".0", "part"] : List Str).Nodup := by decide +kernel
/-- the addresses of the lists of an odd number -/
theorem odd_snoc {H H' : Hp} {zs : List Addr} {ts : List (List Int)} {i : Nat} {q : Addr} {t : List Int} (et : ts[i]? = some t) (hz : LsH H zs ((ts.take i).filter fun c => c.length % 2 == 1)) (k : ∀ b o, H b = some o → b ∈ zs ∨ b = q → H' b = some o) (hq : H q = some (.lst (t.map V.int))) (ho : (t.length % 2 == 1) = true) :
    LsH H' (zs ++ [q]) ((ts.take (i + 1)).filter fun c => c.length % 2 == 1) := by
  rw [List.take_succ, et, Option.toList_some, List.filter_append, List.filter_cons, if_pos ho]
  exact paired_snoc (LsH.at' hz fun b hb o e => k b o e (.inl hb)) (k q _ hq (.inr rfl))
theorem ref_at {rs : List Addr} {ts : List (List Int)} {H : Hp} {i : Nat} {x : V} (h : LsH H rs ts) (e : (rs.map V.ref)[i]? = some x) : ∃ r t, x = .ref r ∧ rs[i]? = some r ∧ ts[i]? = some t ∧ H r = some (.lst (t.map V.int)) := by
  rw [List.getElem?_map] at e
  cases er : rs[i]? with
  | none => rw [er] at e; cases e
  | some r =>
    rw [er] at e
    obtain ⟨t, et, ht⟩ := Sx.pair_at (i := i) (a := r) h er
    exact ⟨r, t, (Option.some.inj e).symm, rfl, et, ht⟩
/-- those of an odd number, of a list of lists -/
theorem turns_odd {K : PySem.W.Frag} {l D : Addr} {qs : List Addr} {ts : List (List Int)} {tt : TT} {Qd : Hp → Prop} {H1 : Hp} (hl : H1 l = some (.lst (qs.map V.ref))) (hL : LsH H1 qs ts) (h9 : qs.length ≤ 900) (hD : H1 D = none)
    (ht : ∀ (e0 : Option V) (r : Addr) (t : List Int) (H2 : Hp) (Q : Bool → Hp → Prop), H2 r = some (.lst (t.map V.int)) → Q (t.length % 2 == 1) H2 → tt [e0, some (.ref r)] H2 Q)
    (q : ∀ (zs : List Addr) (H2 : Hp), Same H1 H2 → H2 D = some (.lst (zs.map V.ref)) → LsH H2 zs (ts.filter fun c => c.length % 2 == 1) → (∀ z ∈ zs, z ∈ qs) → Qd H2) : tTurns (Itl K l) (gName 1) tt (tVar 1) [none, none] D Qd H1 := by
  have lqs := Paired.length hL
  refine turns_list (K := K) (a := l) (xs := qs.map V.ref) (fun i ys σ H2 => ∃ (zs : List Addr) (e0 e1 : Option V), ys = zs.map V.ref ∧ σ = [e0, e1] ∧ Same H1 H2 ∧ H2 D = some (.lst ys) ∧ zs.length ≤ i ∧ i ≤ qs.length ∧ LsH H2 zs ((ts.take i).filter fun c => c.length % 2 == 1) ∧ ∀ z ∈ zs, z ∈ qs)
    ⟨[], none, none, rfl, rfl, Same.new hD, upd_same, Nat.zero_le _, Nat.zero_le _, .nil, fun z hz => by cases hz⟩ ?_ ?_ ?_
  · rintro i ys σ H2 ⟨zs, e0, e1, rfl, rfl, s2, hD2, hlz, hiz, hz, _⟩
    refine ⟨hD2, small1000 ?_, SqL.of (s2 l _ hl)⟩
    rw [List.length_map]
    omega
  · rintro i x ys σ H2 hi ⟨zs, e0, e1, rfl, rfl, s2, hD2, hlz, hiz, hz, hzq⟩
    obtain ⟨r, t, rfl, er, et, hr⟩ := ref_at (LsH.same s2 hL) hi
    have hil : i < (qs.map V.ref).length := (List.getElem?_eq_some_iff.mp hi).1
    have hil' : i < qs.length := by rw [List.length_map] at hil; exact hil
    have hrD : r ≠ D := fun z => by
      obtain ⟨t', _, ht'⟩ := Sx.pair_at (i := i) (a := r) hL er
      rw [z, hD] at ht'
      cases ht'
    unfold gName
    dsimp only
    refine ht e0 r t H2 _ hr ?_
    refine ite2 (fun ho => ?_) (fun ho => ?_)
    · refine ⟨_, rfl, hD2, Nxt.mk hil ⟨zs ++ [r], _, _, by rw [List.map_append]; rfl, rfl, fun b o e => ?_, upd_same, by rw [List.length_append]; exact Nat.succ_le_succ hlz, hil', ?_, fun z hz => ?_⟩⟩
      · rw [upd_ne (ne_of_none e hD)]; exact s2 b o e
      · refine odd_snoc et hz (fun b o e hb => ?_) hr ho
        rw [upd_ne (fun z => ?_)]
        · exact e
        · rcases hb with hb | hb
          · obtain ⟨j, hj, ej⟩ := List.getElem_of_mem (hzq b hb)
            obtain ⟨t', _, ht'⟩ := Sx.pair_at (i := j) (a := b) hL (by rw [← ej]; simp [hj])
            rw [z, hD] at ht'
            cases ht'
          · exact hrD (hb.symm.trans z)
      · rcases List.mem_append.mp hz with q | q
        · exact hzq z q
        · rw [List.mem_singleton] at q
          subst q
          exact List.mem_of_getElem? er
    · refine Nxt.mk hil ⟨zs, _, _, rfl, rfl, s2, hD2, Nat.le_succ_of_le hlz, hil', ?_, hzq⟩
      rw [List.take_succ, et, Option.toList_some, List.filter_append, List.filter_cons, if_neg ho, List.filter_nil, List.append_nil]
      exact hz
  · rintro ys σ H2 ⟨zs, e0, e1, rfl, rfl, s2, hD2, _, _, hz, hzq⟩
    rw [List.length_map, lqs, List.take_length] at hz
    exact q zs H2 s2 hD2 hz hzq
theorem odd_dec (t : List Int) : decide (V.int ((((t.map V.int).length : Nat) : Int) % 2) = V.int 1) = (t.length % 2 == 1) := by
  rw [List.length_map, Bool.eq_iff_iff, decide_eq_true_iff, beq_iff_eq]
  constructor
  · intro e
    have := V.int.inj e
    omega
  · intro e
    exact congrArg V.int (by omega)
theorem ok_odd {f fP C : Addr} {fd fdP : FuncData} (F : Fun K "odd_parts" "odd_parts" sOdd f fd) (glen : mg "len" = none)
    (GP : FnOk P w K mg base CX0 3 fP fdP ["web", "out"] (spParts C K)) (mP : mg "parts" = some (.ref fP)) (kP : PySem.W.keepIn K (.ref fP) = true) (bP : Binds K fdP ["web", "out"] []) : FnOk P w K mg base CX0 4 f fd ["web", "out"] (spOdd C K) := by
  refine F.ok scOdd (fun vs H Q E h => ?_) (fun cdv A outer s H vs Q E hr h => ?_)
  · obtain ⟨p, o, m, T, O, rfl, _⟩ := h
    rfl
  · obtain ⟨p, o, m, T, O, rfl, W, hS, hO, hQ⟩ := h
    have m1 := W.m1
    refine ⟨_, pss_one (ps_ret (pe_comp (g := gName 1) (own := [".0", "part"]) (cl := []) (caps := []) (js := []) rfl (caps0 rfl rfl (by decide +kernel) (by decide +kernel)) (pi_list (pe_call GP hr rfl mP kP bP .nil pass0 (pa_cons (pv 0) (pa_cons (pv 1) pa_nil))))
        (fun pins C s H1 fp => pg_name (i := 1) nd_own1p rfl (Or.inl rfl))
        (fun pins C s H1 fp => pts_one (pt_cmpR op_eq (pe_op op_mod (pe_callB (call_lenK K rfl) (by rfl) glen PySem.boot_len (pa_cons (pv 1) pa_nil)) pe_int) pe_int (nomark _)))
        (fun pins C s H1 fp => pv 1))), ?_⟩
    refine ⟨_, rfl, _, rfl, p, o, m, T, O, rfl, W, hS, hO, fun l qs H1 s1 fl hq hl hL => ⟨l, rfl, ⟨_, SqL.of hl⟩, fun D hD => ?_⟩⟩
    have lqs := Paired.length hL
    have lps := G13.parts_len (m := m) (T := T) (O := O) (i := m)
    refine turns_odd hl hL (by omega) hD (fun e0 r t H2 Q hr q => ?_) fun zs H2 s2 hD2 hz hzq => hQ D zs H2 (s1.trans s2) (s1.free hD) (fun z h => (hq z (hzq z h)).1) hD2 hz
    refine ⟨_, rfl, r, _, rfl, .inl (SqL.of hr), _, _, rfl, rfl, (by show (0 : Int) < 2; decide), rfl, _, rfl, ?_⟩
    rw [odd_dec]
    exact q
end
end K13

/-! ### k13: the law's own helpers -/
namespace L2
open PySem PySem.Spec PyProof.Rows
theorem PS.imp {X : Cx} {st : Stmt} {t t' : TS} (h : PS X st t) (i : ∀ D σ H, t' D σ H → t D σ H) : PS X st t' := fun pins s σ H D I q => h pins s σ H D I (i D σ H q)
theorem pick {xs : List Int} {z : Int} (h0 : 0 ≤ z) (h1 : z < xs.length) : ∃ v : Int, atI (xs.map V.int) z = some (.int v) := by
  have hz : z.toNat < xs.length := by omega
  refine ⟨xs[z.toNat], ?_⟩
  have := atI_nat (xs := xs.map V.int) (j := z.toNat) (v := .int xs[z.toNat]) (by simp [hz])
  rwa [Int.toNat_of_nonneg h0] at this
end L2
namespace K13
open PySem L2 PyProof.Rows
section
variable {P : Program} {w : World} {K : PySem.W.Frag} {mg : Str → Option Value} {base : Heap}
def spCell (K : PySem.W.Frag) : Sp := fun vs H Q _ => ∃ (a : Addr) (ns : List Int) (k : Nat), vs = [.ref a, .int k] ∧ SqL K H a (ns.map V.int) ∧ ∀ n : Int, Q (.int n) H
theorem scCell : FnScope ["_law_script", "_law_k"] ["_law_script", "_law_k"] (defScope sCell) := ⟨rfl, rfl, rfl, by decide +kernel, rfl, by decide +kernel, by decide +kernel⟩
theorem ok_cell {f : Addr} {fd : FuncData} (F : Fun K "_law_cell_at" "_law_cell_at" sCell f fd) (glen : mg "len" = none) : FnOk P w K mg base CX0 1 f fd ["_law_script", "_law_k"] (spCell K) := by
  refine F.ok scCell (fun vs H Q E h => ?_) (fun cdv A outer s H vs Q E hr h => ?_)
  · obtain ⟨a, ns, k, rfl, _⟩ := h
    rfl
  · obtain ⟨a, ns, k, rfl, hS, hQ⟩ := h
    refine ⟨_, pss_cons (ps_if (pt_cmpR op_lt (pv 1) (pe_callB call_len_seq (by rfl) glen PySem.boot_len (pa_cons (pv 0) pa_nil)) (nomark _)) (pss_one (ps_ret (pe_ix ix_list (pv 0) (pv 1) (fun _ _ => rfl)))) pss_nil) (pss_one (ps_ret pe_int)), ?_⟩
    refine ⟨_, rfl, _, rfl, a, _, rfl, .inl hS, _, _, rfl, rfl, _, rfl, ?_⟩
    refine ite2 (fun c => ?_) (fun c => hQ 0)
    have c := of_decide_eq_true c
    rw [List.length_map] at c
    have hk : k < ns.length := by omega
    exact ⟨_, rfl, _, rfl, a, _, _, V.int ns[k], rfl, rfl, hS, atI_nat (by simp [hk]), hQ _⟩
def spMix : Sp := fun vs H Q _ => ∃ c f : Int, vs = [.int c, .int f] ∧ -(2 ^ 64) < f ∧ f < 2 ^ 64 ∧ ∀ n : Int, Q (.int n) H
theorem scMix : FnScope ["_law_cell", "_law_factor"] ["_law_cell", "_law_factor"] (defScope sMix) := ⟨rfl, rfl, rfl, by decide +kernel, rfl, by decide +kernel, by decide +kernel⟩
theorem ok_mix {f : Addr} {fd : FuncData} (F : Fun K "_law_mixed" "_law_mixed" sMix f fd) : FnOk P w K mg base CX0 1 f fd ["_law_cell", "_law_factor"] spMix := by
  refine F.ok scMix (fun vs H Q E h => ?_) (fun cdv A outer s H vs Q E hr h => ?_)
  · obtain ⟨c, g, rfl, _⟩ := h
    rfl
  · obtain ⟨c, g, rfl, g0, g1, hQ⟩ := h
    refine ⟨_, pss_one (ps_ret (pe_op op_mod (pe_op op_mul (pe_op op_add (pv 0) (pe_op op_mod (pv 1) pe_int)) (pv 1)) pe_int)), ?_⟩
    exact ⟨_, rfl, _, rfl, _, _, rfl, rfl, (by show (0 : Int) < 97; decide), _, _, rfl, rfl, _, rfl, _, _, rfl, rfl, .inr ⟨g0, g1⟩, _, _, rfl, rfl, (by show (0 : Int) < 2147483647; decide), hQ _⟩
/-- what isinstance says of ints and lists -/
structure Kit (K : PySem.W.Frag) (mg : Str → Option Value) : Prop where
  ii : PySem.W.kitOne K (.type "int") (.type "int") = some true
  ib : PySem.W.kitOne K (.type "int") (.type "bool") = some false
  ll : PySem.W.kitOne K (.type "list") (.type "list") = some true
  gis : mg "isinstance" = none
  gint : mg "int" = none
  gbool : mg "bool" = none
  glist : mg "list" = none
theorem bt_int : bootBuiltins "int" = some (.type "int") := by decide +kernel
theorem bt_bool : bootBuiltins "bool" = some (.type "bool") := by decide +kernel
theorem bt_list : bootBuiltins "list" = some (.type "list") := by decide +kernel
theorem bt_all : bootBuiltins "all" = some (.builtin "all") := by decide +kernel
def spWhole : Sp := fun vs H Q _ => ∃ n : Int, vs = [.int n] ∧ Q (.bl true) H
theorem scWhole : FnScope ["_law_found"] ["_law_found"] (defScope sWhole) := ⟨rfl, rfl, rfl, by decide +kernel, rfl, by decide +kernel, by decide +kernel⟩
theorem ok_whole {f : Addr} {fd : FuncData} (F : Fun K "_law_whole" "_law_whole" sWhole f fd) (k : Kit K mg) : FnOk P w K mg base CX0 1 f fd ["_law_found"] spWhole := by
  refine F.ok scWhole (fun vs H Q E h => ?_) (fun cdv A outer s H vs Q E hr h => ?_)
  · obtain ⟨n, rfl, _⟩ := h
    rfl
  · obtain ⟨n, rfl, hQ⟩ := h
    refine ⟨_, pss_one (ps_ret (pe_and (pe_callB call_isV (by rfl) k.gis boot_isinstance (pa_cons (pv 0) (pa_cons (pe_bltn (v := .ty "int") (by rfl) k.gint bt_int rfl) pa_nil)))
      (pe_one (pe_not (pe_callB call_isV (by rfl) k.gis boot_isinstance (pa_cons (pv 0) (pa_cons (pe_bltn (v := .ty "bool") (by rfl) k.gbool bt_bool rfl) pa_nil))))))), ?_⟩
    exact ⟨_, rfl, V.int n, "int", .type "int", true, rfl, .int n, k.ii, ⟨true, rfl, iteT ⟨_, rfl, V.int n, "bool", .type "int", false, rfl, .int n, k.ib, ⟨false, rfl, hQ⟩⟩⟩⟩
theorem pick2 {xs : List Int} {z : Int} (h0 : 0 ≤ z) (h1 : z < xs.length) : ∃ v : Int, v ∈ xs ∧ atI (xs.map V.int) z = some (.int v) := by
  have hz : z.toNat < xs.length := by omega
  refine ⟨xs[z.toNat], by simp, ?_⟩
  have := atI_nat (xs := xs.map V.int) (j := z.toNat) (v := .int xs[z.toNat]) (by simp [hz])
  rwa [Int.toNat_of_nonneg h0] at this
def spDrawn : Sp := fun vs H Q _ => ∃ c f : Int, vs = [.int c, .int f] ∧ -(2 ^ 64) < f ∧ f < 2 ^ 64 ∧ ∀ (n : Int) (H' : Hp), Same H H' → Q (.int n) H'
theorem scDrawn : FnScope ["_law_cell", "_law_factor", "_law_own"] ["_law_cell", "_law_factor"] (defScope sDrawn) := ⟨rfl, rfl, rfl, by decide +kernel, rfl, by decide +kernel, by decide +kernel⟩
abbrev tens : List Int := [1, 10 ^ (9 : Int).toNat, 1, 1, 10 ^ (36 : Int).toNat, 1, 10 ^ (54 : Int).toNat]
theorem tens_ok : ∀ v ∈ tens, 0 < v ∧ v.natAbs.log2 < 9000 := by decide +kernel
theorem at2 (x y : V) (k : Bool) : atI [x, y] (if k = true then (1 : Int) else 0) = some (if k = true then y else x) := by cases k <;> rfl
theorem ok_drawn {f fM : Addr} {fd fdM : FuncData} (F : Fun K "_law_drawn" "_law_drawn" sDrawn f fd) (k : Kit K mg) (GM : FnOk P w K mg base CX0 1 fM fdM ["_law_cell", "_law_factor"] spMix) (mM : mg "_law_mixed" = some (.ref fM)) (kM : PySem.W.keepIn K (.ref fM) = true) (bM : Binds K fdM ["_law_cell", "_law_factor"] []) :
    FnOk P w K mg base CX0 2 f fd ["_law_cell", "_law_factor"] spDrawn := by
  refine F.ok scDrawn (fun vs H Q E h => ?_) (fun cdv A outer s H vs Q E hr h => ?_)
  · obtain ⟨c, g, rfl, _⟩ := h
    rfl
  · obtain ⟨c, g, rfl, g0, g1, hQ⟩ := h
    refine ⟨_, pss_cons (ps_set (i := 2) scDrawn.nd rfl (Or.inl rfl) (pe_op op_fdivB (pe_op op_fdiv (pv 0) pe_int)
        (pe_ix ix_list (pe_lst (pa_cons pe_int (pa_cons (pe_op op_pow pe_int pe_int) (pa_cons pe_int (pa_cons pe_int (pa_cons (pe_op op_pow pe_int pe_int) (pa_cons pe_int (pa_cons (pe_op op_pow pe_int pe_int) pa_nil)))))))) (pe_op op_mod (pv 1) pe_int) (fun _ _ => rfl))))
      (pss_one (ps_ret (pe_ix ix_list (pe_lst (pa_cons (pe_call GM hr rfl mM kM bM .nil pass0 (pa_cons (pv 0) (pa_cons (pv 1) pa_nil))) (pa_cons (pv 2) pa_nil)))
        (pe_callTy call_int1 (by rfl) k.gint bt_int (pa_cons (pe_and (pe_cmpR op_eq (pe_op op_mod (pv 0) pe_int) pe_int (nomark _)) (pe_one (pe_cmpR op_gt (pv 2) pe_int (nomark _)))) pa_nil)) (fun _ _ => rfl)))), ?_⟩
    refine ⟨_, rfl, _, _, rfl, rfl, ⟨by decide, by decide⟩, _, _, rfl, rfl, ⟨by decide, by decide, by decide⟩, _, _, rfl, rfl, ⟨by decide, by decide, by decide⟩, _, _, rfl, rfl, ⟨by decide, by decide, by decide⟩, (by show 7 ≤ sizeLine; decide), fun l hl => ?_⟩
    obtain ⟨v, hm, hv⟩ := pick2 (xs := tens) (z := g % 7) (by omega) (by show g % 7 < 7; omega)
    obtain ⟨v0, v1⟩ := tens_ok v hm
    refine ⟨_, rfl, _, _, rfl, rfl, (by show (0 : Int) < 7; decide), l, _, _, _, rfl, rfl, SqL.of upd_same, hv, _, _, rfl, rfl, ⟨v0, v1⟩, ?_⟩
    refine ⟨_, rfl, _, rfl, c, g, rfl, g0, g1, fun n => ⟨_, rfl, (by show 2 ≤ sizeLine; decide), fun l2 hl2 => ?_⟩⟩
    have s2 := (Same.new (o := .lst (tens.map V.int)) hl).trans (Same.new (o := .lst [.int n, .int (c / 2 / v)]) hl2)
    have fin : ∀ b : Bool, rIxL K (.ref l2) (.int (if b = true then 1 else 0)) (upd (upd H l (.lst (tens.map V.int))) l2 (.lst [.int n, .int (c / 2 / v)])) Q := fun b => by
      refine ⟨l2, _, _, _, rfl, rfl, SqL.of upd_same, at2 _ _ b, ?_⟩
      cases b
      · exact hQ n _ s2
      · exact hQ (c / 2 / v) _ s2
    refine ⟨_, rfl, _, _, rfl, rfl, (by show (0 : Int) < 2; decide), rfl, _, rfl, ?_⟩
    refine ite2 (fun _ => ?_) (fun _ => .inr ⟨false, rfl, fin false⟩)
    exact ⟨_, rfl, _, _, rfl, rfl, .inr ⟨_, rfl, fin _⟩⟩
def spNth : Sp := fun vs H Q _ => ∃ (c : Int) (k : Nat), vs = [.int c, .int k] ∧ k ≤ 100 ∧ ∀ n : Int, Q (.int n) H
theorem scNth : FnScope ["_law_cell", "_law_k", "_law_rest", "_law_j"] ["_law_cell", "_law_k"] (defScope sNth) := ⟨rfl, rfl, rfl, by decide +kernel, rfl, by decide +kernel, by decide +kernel⟩
theorem ok_nth {f : Addr} {fd : FuncData} (F : Fun K "_law_nth" "_law_nth" sNth f fd) (grange : mg "range" = none) : FnOk P w K mg base CX0 1 f fd ["_law_cell", "_law_k"] spNth := by
  refine F.ok scNth (fun vs H Q E h => ?_) (fun cdv A outer s H vs Q E hr h => ?_)
  · obtain ⟨c, k, rfl, _⟩ := h
    rfl
  · obtain ⟨c, k, rfl, hk, hQ⟩ := h
    refine ⟨_, pss_cons (ps_set (i := 2) scNth.nd rfl (Or.inl rfl) (pe_op op_fdiv (pv 0) pe_int))
      (pss_cons (ps_for PassesOwn.never rfl (pi_range1 rfl grange (pa_cons (pv 1) pa_nil)) (pg_name (i := 3) scNth.nd rfl (Or.inl rfl)) (pss_one (ps_set (i := 2) scNth.nd rfl (Or.inl rfl) (pe_op op_fdiv (pv 2) pe_int))))
      (pss_one (ps_ret (pv 2)))), ?_⟩
    refine ⟨_, rfl, _, _, rfl, rfl, ⟨by decide, by decide⟩, ?_⟩
    refine ⟨_, rfl, (k : Int), rfl, by omega, by omega, for_range (lo := 0) (n := (k : Int).toNat) (fun i σ H2 => ∃ (r : Int) (e3 : Option V), σ = [some (.int c), some (.int k), some (.int r), e3] ∧ H2 = H) ⟨_, none, rfl, rfl⟩ ?_ ?_⟩
    · rintro i σ H2 hi ⟨r, e3, rfl, rfl⟩
      exact ⟨_, rfl, _, _, rfl, rfl, ⟨by decide, by decide⟩, _, _, rfl, rfl⟩
    · rintro σ H2 ⟨r, e3, rfl, rfl⟩
      exact ⟨_, rfl, hQ r⟩
end
end K13

/-! ### k13: the law's rows, its points out -/
namespace Mt
theorem scan_ok {m : Int} : ∀ {T : List Tri} {seen : List (List Int)}, (seen ++ T.map key).Nodup → (∀ t ∈ T, ¬ bad m t.1 t.2.1) → scan m T seen = .good
  | [], _, _, _ => rfl
  | t :: r, seen, hn, hb => by
    rw [scan_cons, if_neg (hb t (.head _))]
    have e : seen ++ (t :: r).map key = (seen ++ [key t]) ++ r.map key := by simp
    rw [e] at hn
    have hk : ¬ (seen.any fun k => decide (k = key t)) = true := fun z => by
      obtain ⟨k, hk, ek⟩ := List.any_eq_true.mp z
      have ek := of_decide_eq_true ek
      have h1 := (List.nodup_append.mp hn).1
      exact (List.nodup_append.mp h1).2.2 k hk (key t) (.head _) ek
    rw [if_neg hk]
    exact scan_ok hn fun u hu => hb u (.tail _ hu)
end Mt
namespace K13
open PySem L2 PyProof.Rows
section
variable {P : Program} {w : World} {K : PySem.W.Frag} {mg : Str → Option Value} {base : Heap}
theorem TupsH.at' {H H' : Hp} {rs : List Addr} {ts : List (List Int)} (h : TupsH H rs ts) (k : ∀ b xs, H b = some (.tup xs) → H' b = some (.tup xs)) : TupsH H' rs ts :=
  zip_paired (Paired.length h) fun z hz => ⟨k _ _ (paired_zip h z hz).1, (paired_zip h z hz).2⟩
theorem PSs.imp {X : Cx} {st : List Stmt} {t t' : TS} (h : PSs X st t) (i : ∀ D σ H, t' D σ H → t D σ H) : PSs X st t' := fun pins s σ H D I q => h pins s σ H D I (i D σ H q)
theorem set_self {α : Type} : ∀ {l : List α} {i : Nat} {x : α}, l[i]? = some x → l.set i x = l
  | [], _, _, e => by simp at e
  | a :: l, 0, x, e => by simp at e; subst e; rfl
  | a :: l, i + 1, x, e => by
    show a :: l.set i x = a :: l
    rw [set_self (l := l) (i := i) (by simpa using e)]
theorem pickB {z : Int} (x y u : Bool) (h0 : 0 ≤ z) (h1 : z < 3) : ∃ v : Bool, atI [V.bl x, V.bl y, V.bl u] z = some (.bl v) := by
  have : z = 0 ∨ z = 1 ∨ z = 2 := by omega
  rcases this with rfl | rfl | rfl
  · exact ⟨x, rfl⟩
  · exact ⟨y, rfl⟩
  · exact ⟨u, rfl⟩
/-- a name is given some bool -/
def tNear : TS := fun D σ H => (∃ m wy a b : Int, σ[1]? = some (some (.int m)) ∧ σ[2]? = some (some (.int wy)) ∧ σ[6]? = some (some (.int a)) ∧ σ[7]? = some (some (.int b)) ∧ 0 ≤ wy ∧ wy < 3) ∧ ∀ (v : Bool) (H' : Hp), Same H H' → D.nx (σ.set 8 (some (.bl v))) H'
def spRows (K : PySem.W.Frag) : Sp := fun vs H Q _ => ∃ (a : Addr) (m wy : Int) (ns : List Int), vs = [.ref a, .int m, .int wy] ∧ SqL K H a (ns.map V.int) ∧ ns.length ≤ 63 ∧ 0 ≤ m ∧ m ≤ 24 ∧ 0 ≤ wy ∧ wy < 3 ∧
  ∀ (r : Addr) (rs : List Addr) (T : List Mt.Tri) (H' : Hp), Same H H' → H' r = some (.lst (rs.map V.ref)) → TupsH H' rs (T.map Mt.tri) → T.length ≤ 61 → Mt.scan m T [] = .good → Q (.ref r) H'
abbrev nmW : List Str := ["_law_script", "_law_many", "_law_way", "_law_rows_here", "_law_seen", "_law_cell", "_law_a", "_law_b", "_law_near"]
theorem scRows : FnScope nmW ["_law_script", "_law_many", "_law_way"] (defScope sRows) := ⟨rfl, rfl, rfl, by decide +kernel, rfl, by decide +kernel, by decide +kernel⟩
theorem cut_len (ns : List Int) (h : ns.length ≤ 63) : (cutV (ns.map V.int) (some 2) (some 65)).length ≤ 61 := by
  unfold cutV
  rw [List.length_take, List.length_drop, List.length_map]
  have : HT.sIx ns.length 0 (some 2) = min 2 ns.length := by
    unfold HT.sIx
    first | rfl | simp | omega
  have h2 : HT.sIx ns.length ns.length (some 65) = min 65 ns.length := by
    unfold HT.sIx
    first | rfl | simp | omega
  omega
theorem cut_int (ns : List Int) (i : Nat) (x : V) (h : (cutV (ns.map V.int) (some 2) (some 65))[i]? = some x) : ∃ z : Int, x = .int z := by
  unfold cutV at h
  have m := List.mem_of_getElem? h
  have m2 := List.mem_of_mem_drop (List.mem_of_mem_take m)
  obtain ⟨z, _, e⟩ := List.mem_map.mp m2
  exact ⟨z, e.symm⟩
theorem max1 (m : Int) : (if m > 1 then m else (1 : Int)) > 0 := by split <;> omega
/-- the tie is put behind both lists -/
def tApp : TS := fun D σ H => ∃ (r q : Addr) (xs ys : List V) (a b c : Int), σ[3]? = some (some (.ref r)) ∧ σ[4]? = some (some (.ref q)) ∧ σ[5]? = some (some (.int c)) ∧ σ[6]? = some (some (.int a)) ∧ σ[7]? = some (some (.int b)) ∧
  H r = some (.lst xs) ∧ H q = some (.lst ys) ∧ r ≠ q ∧ xs.length < 1000 ∧ ys.length < 1000 ∧ ∀ (t1 t2 : Addr) (n : Int) (H' : Hp), (∀ c o, H c = some o → c ≠ r → c ≠ q → H' c = some o) → H' r = some (.lst (xs ++ [.ref t2])) → H' q = some (.lst (ys ++ [.ref t1])) →
    H' t1 = some (.tup [.int (Mt.lo a b), .int (Mt.hi a b)]) → H' t2 = some (.tup [.int a, .int b, .int n]) → D.nx σ H'
/-- between two turns -/
def PRows (a r q l : Addr) (m wy : Int) (cut : List V) (H : Hp) (i : Nat) (σ : L2.St) (H3 : Hp) : Prop := ∃ (rs ss : List Addr) (T : List Mt.Tri) (e5 e6 e7 e8 : Option V), σ = [some (.ref a), some (.int m), some (.int wy), some (.ref r), some (.ref q), e5, e6, e7, e8] ∧ Same H H3 ∧
  H3 l = some (.lst cut) ∧ H3 r = some (.lst (rs.map V.ref)) ∧ H3 q = some (.lst (ss.map V.ref)) ∧ TupsH H3 rs (T.map Mt.tri) ∧ TupsH H3 ss (T.map Mt.key) ∧ T.length ≤ i ∧ (T.map Mt.key).Nodup ∧ ∀ t ∈ T, ¬ Mt.bad m t.1 t.2.1
theorem ok_rows {f fD : Addr} {fd fdD : FuncData} (F : Fun K "_law_rows" "_law_rows" sRows f fd) (gmin : mg "min" = none) (gmax : mg "max" = none)
    (GD : FnOk P w K mg base CX0 2 fD fdD ["_law_cell", "_law_factor"] spDrawn) (mD : mg "_law_drawn" = some (.ref fD)) (kD : PySem.W.keepIn K (.ref fD) = true) (bD : Binds K fdD ["_law_cell", "_law_factor"] []) :
    FnOk P w K mg base CX0 3 f fd ["_law_script", "_law_many", "_law_way"] (spRows K) := by
  refine F.ok scRows (fun vs H Q E h => ?_) (fun cdv A outer s H vs Q E hr h => ?_)
  · obtain ⟨a, m, wy, ns, rfl, _⟩ := h
    rfl
  · obtain ⟨a, m, wy, ns, rfl, hS, hns, m0, m1, w0, w1, hQ⟩ := h
    have hu := hu_of hr
    refine ⟨_, pss_cons (ps_set (i := 3) scRows.nd rfl (Or.inl rfl) (pe_lst pa_nil))
      (pss_cons (ps_set (i := 4) scRows.nd rfl (Or.inl rfl) (pe_lst pa_nil))
      (pss_cons (ps_for PassesOwn.never rfl (pi_list (pe_slice sl_list (pv 0) (po_some pe_int) (po_some pe_int))) (pg_name (i := 5) scRows.nd rfl (Or.inl rfl))
        (pss_cons (ps_set (i := 6) scRows.nd rfl (Or.inl rfl) (pe_op op_mod (pe_op op_fdiv (pe_call GD hr rfl mD kD bD .nil pass0 (pa_cons (pv 5) (pa_cons pe_int pa_nil))) pe_int) (pe_callB (call_max2 rfl) (by rfl) gmax boot_max (pa_cons pe_int (pa_cons (pv 1) pa_nil)))))
        (pss_cons (ps_set (i := 7) scRows.nd rfl (Or.inl rfl) (pe_op op_mod (pe_op op_fdiv (pe_call GD hr rfl mD kD bD .nil pass0 (pa_cons (pv 5) (pa_cons pe_int pa_nil))) pe_int) (pe_callB (call_max2 rfl) (by rfl) gmax boot_max (pa_cons pe_int (pa_cons (pv 1) pa_nil)))))
        (pss_cons (PS.imp (t' := tNear) (ps_set (i := 8) scRows.nd rfl (Or.inl rfl) (pe_ix ix_list (pe_lst (pa_cons pe_bl (pa_cons (pe_cmpR op_eq (pe_op op_mod (pv 6) pe_int) (pe_op op_mod (pv 7) pe_int) (nomark _))
            (pa_cons (pe_and (pe_cmpR op_eq (pe_op op_mod (pv 6) pe_int) (pe_op op_mod (pv 7) pe_int) (nomark _)) (pe_and (pe_cmpR op_lt (pe_op op_mul pe_int (pv 6)) (pv 1) (nomark _)) (pe_one (pe_cmpR op_lt (pe_op op_mul pe_int (pv 7)) (pv 1) (nomark _))))) pa_nil)))) (pv 2) (fun _ _ => rfl))) ?i1)
        (pss_one (ps_if (pw_and (pt_cmpR op_ne (pv 6) (pv 7) (nomark _)) (pw_and (pt_val (pv 8)) (pw_and1 (pt_cmpR (op_notInT hu) (pe_tup (pa_cons (pe_callB (call_min2 rfl) (by rfl) gmin boot_min (pa_cons (pv 6) (pa_cons (pv 7) pa_nil)))
              (pa_cons (pe_callB (call_max2 rfl) (by rfl) gmax boot_max (pa_cons (pv 6) (pa_cons (pv 7) pa_nil))) pa_nil))) (pv 4) (by with_unfolding_all rfl))))).pt
          (PSs.imp (t' := tApp) (pss_cons (ps_expr (pe_bm PySem.F.plainAttrs_list PySem.F.slot_list_append PySem.F.type_list_append mt_append (pv 4) (pa_cons (pe_tup (pa_cons (pe_callB (call_min2 rfl) (by rfl) gmin boot_min (pa_cons (pv 6) (pa_cons (pv 7) pa_nil)))
              (pa_cons (pe_callB (call_max2 rfl) (by rfl) gmax boot_max (pa_cons (pv 6) (pa_cons (pv 7) pa_nil))) pa_nil))) pa_nil)))
          (pss_one (ps_expr (pe_bm PySem.F.plainAttrs_list PySem.F.slot_list_append PySem.F.type_list_append mt_append (pv 3) (pa_cons (pe_tup (pa_cons (pv 6) (pa_cons (pv 7)
              (pa_cons (pe_op op_sub (pe_op op_mod (pe_call GD hr rfl mD kD bD .nil pass0 (pa_cons (pv 5) (pa_cons pe_int pa_nil))) pe_int) pe_int) pa_nil)))) pa_nil))))) ?i2) pss_nil))))))
      (pss_one (ps_ret (pv 3))))), ?_⟩
    case i1 =>
      rintro D σ H ⟨⟨m, wy, a, b, e1, e2, e6, e7, w0, w1⟩, hn⟩
      refine ⟨_, e6, _, _, rfl, rfl, (by show (0 : Int) < 3; decide), _, e7, _, _, rfl, rfl, (by show (0 : Int) < 3; decide), rfl, ?_⟩
      refine ⟨_, e6, _, _, rfl, rfl, (by show (0 : Int) < 3; decide), _, e7, _, _, rfl, rfl, (by show (0 : Int) < 3; decide), rfl, _, rfl, ?_⟩
      refine ite2 (fun _ => ⟨_, e6, _, _, rfl, rfl, .inl ⟨by decide, by decide⟩, _, e1, _, _, rfl, rfl, _, rfl, ite2 (fun _ => ⟨_, e7, _, _, rfl, rfl, .inl ⟨by decide, by decide⟩, _, e1, _, _, rfl, rfl, ?_⟩) (fun _ => ?_)⟩) (fun _ => ?_)
      all_goals exact ⟨(by show 3 ≤ sizeLine; decide), fun l hl => ⟨_, e2, l, _, _, _, rfl, rfl, SqL.of upd_same, (pickB _ _ _ w0 w1).choose_spec, hn _ _ (Same.new hl)⟩⟩
    case i2 =>
      rintro D σ H ⟨r, q, xs, ys, a, b, c, e3, e4, e5, e6, e7, hr, hq, nrq, lx, ly, h⟩
      refine ⟨_, e4, .inl ⟨rfl, _, SqL.of hq⟩, _, e6, _, e7, a, b, rfl, _, e6, _, e7, a, b, rfl, (by show 2 ≤ sizeLine; decide), fun t1 h1 => ?_⟩
      have n1 : q ≠ t1 := ne_of_none hq h1
      have n2 : r ≠ t1 := ne_of_none hr h1
      have hq1 : upd H t1 (.tup [.int (Mt.lo a b), .int (Mt.hi a b)]) q = some (.lst ys) := by rw [upd_ne n1]; exact hq
      refine ⟨q, ys, _, rfl, rfl, hq1, small1000 (by omega), ?_⟩
      have hr2 : upd (upd H t1 (.tup [.int (Mt.lo a b), .int (Mt.hi a b)])) q (.lst (ys ++ [.ref t1])) r = some (.lst xs) := by rw [upd_ne nrq, upd_ne n2]; exact hr
      have hq2 : upd (upd H t1 (.tup [.int (Mt.lo a b), .int (Mt.hi a b)])) q (.lst (ys ++ [.ref t1])) q = some (.lst (ys ++ [.ref t1])) := upd_same
      have ht2 : upd (upd H t1 (.tup [.int (Mt.lo a b), .int (Mt.hi a b)])) q (.lst (ys ++ [.ref t1])) t1 = some (.tup [.int (Mt.lo a b), .int (Mt.hi a b)]) := by rw [upd_ne n1.symm]; exact upd_same
      have k2 : ∀ c o, H c = some o → c ≠ r → c ≠ q → upd (upd H t1 (.tup [.int (Mt.lo a b), .int (Mt.hi a b)])) q (.lst (ys ++ [.ref t1])) c = some o := fun c o e n3 n4 => by rw [upd_ne n4, upd_ne (ne_of_none e h1)]; exact e
      refine ⟨_, e3, .inl ⟨rfl, _, SqL.of hr2⟩, _, e6, _, e7, _, e5, c, _, rfl, by decide, by decide, fun n H3 s3 => ⟨_, _, rfl, rfl, (by show (0 : Int) < 5; decide), _, _, rfl, rfl, (by show 3 ≤ sizeLine; decide), fun t2 h2 => ?_⟩⟩
      replace h2 : H3 t2 = none := h2
      replace s3 : Same (upd (upd H t1 (.tup [.int (Mt.lo a b), .int (Mt.hi a b)])) q (.lst (ys ++ [.ref t1]))) H3 := s3
      have hr3 := s3 r _ hr2
      have hq3 := s3 q _ hq2
      have ht3 := s3 t1 _ ht2
      have m1 : r ≠ t2 := ne_of_none hr3 h2
      have m2 : q ≠ t2 := ne_of_none hq3 h2
      have m3 : t1 ≠ t2 := ne_of_none ht3 h2
      refine ⟨r, xs, _, rfl, rfl, (by rw [upd_ne m1]; exact hr3), small1000 (by omega), ?_⟩
      refine h t1 t2 (n % 5 - 2) _ (fun c o e n3 n4 => ?_) upd_same ?_ ?_ ?_
      · have e' := s3 c o (k2 c o e n3 n4)
        rw [upd_ne n3, upd_ne (ne_of_none e' h2)]
        exact e'
      · rw [upd_ne nrq.symm, upd_ne m2]
        exact hq3
      · rw [upd_ne (ne_of ht3 hr3 (by intro z; cases z)), upd_ne m3]
        exact ht3
      · rw [upd_ne m1.symm]
        exact upd_same
    refine ⟨Nat.zero_le _, fun r hr0 => ⟨Nat.zero_le _, fun q hq0 => ?_⟩⟩
    have s1 : Same H (upd H r (.lst [])) := Same.new hr0
    have nrq : r ≠ q := ne_of_none upd_same hq0
    have s2 := s1.trans (Same.new (o := .lst []) hq0)
    have hq0H : H q = none := s1.free hq0
    have hr2 : upd (upd H r (.lst [])) q (.lst []) r = some (.lst []) := by rw [upd_ne nrq]; exact upd_same
    have hq2 : upd (upd H r (.lst [])) q (.lst []) q = some (.lst []) := upd_same
    generalize upd (upd H r (.lst [])) q (.lst []) = H2 at s2 hr2 hq2 ⊢
    refine ⟨_, rfl, 2, rfl, 65, rfl, a, _, rfl, s2.seq hS, fun l hl => ?_⟩
    have s3 : Same H2 (upd H2 l (.lst (cutV (ns.map V.int) (some 2) (some 65)))) := Same.new hl
    have nlr : r ≠ l := ne_of_none hr2 hl
    have nlq : q ≠ l := ne_of_none hq2 hl
    have lc := cut_len ns hns
    refine ⟨l, rfl, ⟨_, SqL.of upd_same⟩, for_list (K := K) (a := l) (xs := cutV (ns.map V.int) (some 2) (some 65)) (PRows a r q l m wy (cutV (ns.map V.int) (some 2) (some 65)) H)
      ⟨[], [], [], none, none, none, none, rfl, s2.trans s3, upd_same, s3 r _ hr2, s3 q _ hq2, .nil, .nil, Nat.le_refl _, List.nodup_nil, fun t ht => by cases ht⟩ (fun i σ H3 _ ⟨_, _, _, _, _, _, _, _, _, hl3, _⟩ => SqL.of hl3) ?_ ?_⟩
    · rintro i x σ H3 hi ⟨rs, ss, T, e5, e6, e7, e8, rfl, s4, hl3, hr3, hq3, hT, hK, lT, nd, nb⟩
      have hil : i < 61 := Nat.lt_of_lt_of_le (List.getElem?_eq_some_iff.mp hi).1 lc
      obtain ⟨z, rfl⟩ := cut_int ns i x hi
      have hsz := max1 m
      refine ⟨_, rfl, z, _, rfl, by decide, by decide, fun n1 H4 s5 => ⟨_, _, rfl, rfl, ⟨by decide, by decide⟩, _, rfl, _, _, rfl, _, _, rfl, rfl, hsz, ?_⟩⟩
      refine ⟨_, rfl, z, _, rfl, by decide, by decide, fun n2 H5 s6 => ⟨_, _, rfl, rfl, ⟨by decide, by decide⟩, _, rfl, _, _, rfl, _, _, rfl, rfl, hsz, ?_⟩⟩
      have ha0 := Int.emod_nonneg (n1 / 8) (show (if m > 1 then m else (1 : Int)) ≠ 0 by omega)
      have ha1 := Int.emod_lt_of_pos (n1 / 8) hsz
      have hb0 := Int.emod_nonneg (n2 / 8) (show (if m > 1 then m else (1 : Int)) ≠ 0 by omega)
      have hb1 := Int.emod_lt_of_pos (n2 / 8) hsz
      show tSeq _ _ _ [some (.ref a), some (.int m), some (.int wy), some (.ref r), some (.ref q), some (.int z), some (.int (n1 / 8 % (if m > 1 then m else (1 : Int)))), some (.int (n2 / 8 % (if m > 1 then m else (1 : Int)))), e8] H5
      generalize hA : n1 / 8 % (if m > 1 then m else (1 : Int)) = a1 at ha0 ha1 ⊢
      generalize hB : n2 / 8 % (if m > 1 then m else (1 : Int)) = b1 at hb0 hb1 ⊢
      refine ⟨⟨m, wy, a1, b1, rfl, rfl, rfl, rfl, w0, w1⟩, fun v H6 s7 => ?_⟩
      have s36 : Same H3 H6 := s5.trans (s6.trans s7)
      have s06 := s4.trans s36
      have hr6 := s36 r _ hr3
      have hq6 := s36 q _ hq3
      have hl6 := s36 l _ hl3
      have hT6 := TupsH.same s36 hT
      have hK6 := TupsH.same s36 hK
      have lrs := Paired.length hT6
      have lss := Paired.length hK6
      rw [List.length_map] at lrs lss
      have skip : ∀ H7, Same H6 H7 → PRows a r q l m wy (cutV (ns.map V.int) (some 2) (some 65)) H (i + 1) [some (.ref a), some (.int m), some (.int wy), some (.ref r), some (.ref q), some (.int z), some (.int a1), some (.int b1), some (.bl v)] H7 := fun H7 s7 =>
        ⟨rs, ss, T, _, _, _, _, rfl, s06.trans s7, s7 l _ hl6, s7 r _ hr6, s7 q _ hq6, TupsH.same s7 hT6, TupsH.same s7 hK6, Nat.le_succ_of_le lT, nd, nb⟩
      have hx : (rs.map V.ref).length < 1000 := by rw [List.length_map]; omega
      have hy : (ss.map V.ref).length < 1000 := by rw [List.length_map]; omega
      -- the test
      refine ⟨_, rfl, _, rfl, rfl, _, rfl, ?_⟩
      refine ite2 (fun c1 => ?_) (fun _ => iteF (skip H6 (Same.refl _)))
      have nab : a1 ≠ b1 := fun z => by rw [z] at c1; simp at c1
      refine ⟨_, rfl, v, rfl, ?_⟩
      refine ite2 (fun _ => ?_) (fun _ => iteF (skip H6 (Same.refl _)))
      refine ⟨_, rfl, _, rfl, a1, b1, rfl, _, rfl, _, rfl, a1, b1, rfl, (by show 2 ≤ sizeLine; decide), fun t ht => ?_⟩
      have s8 : Same H6 (upd H6 t (.tup [.int (Mt.lo a1 b1), .int (Mt.hi a1 b1)])) := Same.new ht
      refine ⟨_, rfl, t, [Mt.lo a1 b1, Mt.hi a1 b1], q, ss, _, rfl, upd_same, rfl, SqL.of (s8 q _ hq6), TupsH.same s8 hK6, _, rfl, ?_⟩
      refine ite2 (fun c3 => ⟨r, q, _, _, a1, b1, z, rfl, rfl, rfl, rfl, rfl, s8 r _ hr6, s8 q _ hq6, nrq, hx, hy, ?_⟩) (fun _ => skip _ s8)
      intro t1 t2 n H8 k8 h8r h8q h81 h82
      have kt : ∀ b xs, H6 b = some (.tup xs) → H8 b = some (.tup xs) := fun b xs e => k8 b _ (s8 b _ e) (ne_of e hr6 (by intro z; cases z)) (ne_of e hq6 (by intro z; cases z))
      refine ⟨rs ++ [t2], ss ++ [t1], T ++ [(a1, b1, n)], _, _, _, _, rfl, fun b o e => ?_, ?_, ?_, ?_, ?_, ?_, ?_, ?_, fun t ht => ?_⟩
      · exact k8 b o (s8 b o (s06 b o e)) (ne_of_none e hr0) (ne_of_none e hq0H)
      · exact k8 l _ (s8 l _ hl6) nlr.symm nlq.symm
      · rw [h8r, List.map_append]; rfl
      · rw [h8q, List.map_append]; rfl
      · rw [List.map_append]
        exact paired_snoc (TupsH.at' hT6 kt) ⟨h82, fun z => by cases z⟩
      · rw [List.map_append]
        exact paired_snoc (TupsH.at' hK6 kt) ⟨h81, fun z => by cases z⟩
      · rw [List.length_append]; exact Nat.succ_le_succ lT
      · rw [List.map_append, List.nodup_append]
        refine ⟨nd, by simp, fun x hx y hy => ?_⟩
        rw [List.map_cons, List.map_nil, List.mem_singleton] at hy
        subst hy
        intro e
        subst e
        have : (T.map Mt.key).any (fun u => decide (u = [Mt.lo a1 b1, Mt.hi a1 b1])) = true := List.any_eq_true.mpr ⟨_, hx, decide_eq_true rfl⟩
        rw [this] at c3
        cases c3
      · rcases List.mem_append.mp ht with ht | ht
        · exact nb t ht
        · rw [List.mem_singleton] at ht
          subst ht
          unfold Mt.bad
          show ¬ (a1 < 0 ∨ m ≤ a1 ∨ b1 < 0 ∨ m ≤ b1 ∨ a1 = b1)
          split at ha1
          · rw [if_pos (by assumption)] at hb1
            omega
          · rw [if_neg (by assumption)] at hb1
            omega
    · rintro σ H3 ⟨rs, ss, T, e5, e6, e7, e8, rfl, s4, hl3, hr3, hq3, hT, hK, lT, nd, nb⟩
      exact ⟨_, rfl, hQ r rs T H3 s4 hr3 hT (by omega) (Mt.scan_ok (by simpa using nd) nb)⟩
/-! the points out -/
def tNum : TS := fun D σ H => (∃ (c n : Int) (k : Nat), σ[1]? = some (some (.int c)) ∧ σ[4]? = some (some (.int n)) ∧ σ[5]? = some (some (.int k)) ∧ k ≤ 100) ∧ ∀ v : Int, D.nx (σ.set 4 (some (.int v))) H
def spOut : Sp := fun vs H Q _ => ∃ m c wy : Int, vs = [.int m, .int c, .int wy] ∧ 0 ≤ m ∧ m ≤ 24 ∧ ∀ (l : Addr) (O : List Int) (H' : Hp), Same H H' → H' l = some (.lst (O.map V.int)) → O.length ≤ 24 → Q (.ref l) H'
abbrev nmO : List Str := ["_law_many", "_law_cell", "_law_way", "_law_found", "_law_number", "_law_k"]
theorem scOut : FnScope nmO ["_law_many", "_law_cell", "_law_way"] (defScope sOut) := ⟨rfl, rfl, rfl, by decide +kernel, rfl, by decide +kernel, by decide +kernel⟩
theorem ok_out {f fM fN : Addr} {fd fdM fdN : FuncData} (F : Fun K "_law_out" "_law_out" sOut f fd) (glen : mg "len" = none) (grange : mg "range" = none)
    (GM : FnOk P w K mg base CX0 1 fM fdM ["_law_cell", "_law_factor"] spMix) (mM : mg "_law_mixed" = some (.ref fM)) (kM : PySem.W.keepIn K (.ref fM) = true) (bM : Binds K fdM ["_law_cell", "_law_factor"] [])
    (GN : FnOk P w K mg base CX0 1 fN fdN ["_law_cell", "_law_k"] spNth) (mN : mg "_law_nth" = some (.ref fN)) (kN : PySem.W.keepIn K (.ref fN) = true) (bN : Binds K fdN ["_law_cell", "_law_k"] []) :
    FnOk P w K mg base CX0 2 f fd ["_law_many", "_law_cell", "_law_way"] spOut := by
  refine F.ok scOut (fun vs H Q E h => ?_) (fun cdv A outer s H vs Q E hr h => ?_)
  · obtain ⟨m, c, wy, rfl, _⟩ := h
    rfl
  · obtain ⟨m, c, wy, rfl, m0, m1, hQ⟩ := h
    refine ⟨_, pss_cons (ps_set (i := 3) scOut.nd rfl (Or.inl rfl) (pe_lst pa_nil))
      (pss_cons (ps_set (i := 4) scOut.nd rfl (Or.inl rfl) (pe_call GM hr rfl mM kM bM .nil pass0 (pa_cons (pv 1) (pa_cons pe_int pa_nil))))
      (pss_cons (ps_for PassesOwn.never rfl (pi_range1 rfl grange (pa_cons (pv 0) pa_nil)) (pg_name (i := 5) scOut.nd rfl (Or.inl rfl))
        (pss_cons (ps_set (i := 4) scOut.nd rfl (Or.inl rfl) (pe_call GM hr rfl mM kM bM .nil pass0 (pa_cons (pe_op op_add (pv 4) (pv 5)) (pa_cons pe_int pa_nil))))
        (pss_cons (PS.imp (t' := tNum) (ps_if (pw_and (pt_cmpR op_eq (pe_op op_mod (pv 1) pe_int) pe_int (nomark _)) (pw_and1 (pt_cmpR op_gt (pe_call GN hr (by rfl) mN kN bN .nil pass0 (pa_cons (pv 1) (pa_cons (pv 5) pa_nil))) pe_int (nomark _)))).pt
            (pss_one (ps_set (i := 4) scOut.nd rfl (Or.inl rfl) (pe_call GN hr rfl mN kN bN .nil pass0 (pa_cons (pv 1) (pa_cons (pv 5) pa_nil))))) pss_nil) ?i1)
        (pss_one (ps_if (pt_cmpR op_lt (pe_op op_mod (pe_op op_fdiv (pv 4) pe_int) pe_int) (pv 2) (nomark _))
            (pss_one (ps_expr (pe_bm PySem.F.plainAttrs_list PySem.F.slot_list_insert PySem.F.type_list_insert mt_insert (pv 3)
              (pa_cons (pe_op op_mod (pe_op op_fdiv (pv 4) pe_int) (pe_op op_add (pe_callB call_len_seq (by rfl) glen PySem.boot_len (pa_cons (pv 3) pa_nil)) pe_int)) (pa_cons (pv 5) pa_nil))))) pss_nil)))))
      (pss_one (ps_ret (pv 3))))), ?_⟩
    case i1 =>
      rintro D σ H ⟨⟨c, n, k, e1, e4, e5, hk⟩, hn⟩
      have keep : D.nx σ H := by
        have q := hn n
        rw [set_self e4] at q
        exact q
      refine ⟨_, e1, _, _, rfl, rfl, (by show (0 : Int) < 2; decide), rfl, _, rfl, ?_⟩
      refine ite2 (fun _ => ?_) (fun _ => iteF keep)
      refine ⟨_, e1, _, e5, c, k, rfl, hk, fun v => ⟨_, _, rfl, rfl, _, rfl, ?_⟩⟩
      refine ite2 (fun _ => ?_) (fun _ => keep)
      exact ⟨_, e1, _, e5, c, k, rfl, hk, fun v => hn v⟩
    refine ⟨Nat.zero_le _, fun l hl => ?_⟩
    refine ⟨_, rfl, c, _, rfl, by decide, by decide, fun n => ?_⟩
    refine ⟨_, rfl, m, rfl, by omega, by omega, for_range (lo := 0) (n := m.toNat)
      (fun i σ H2 => ∃ (O : List Int) (n : Int) (e5 : Option V), σ = [some (.int m), some (.int c), some (.int wy), some (.ref l), some (.int n), e5] ∧ Same H H2 ∧ H2 l = some (.lst (O.map V.int)) ∧ O.length ≤ i)
      ⟨[], n, none, rfl, Same.new hl, upd_same, Nat.le_refl _⟩ ?_ ?_⟩
    · rintro i σ H2 hi ⟨O, n, e5, rfl, s2, hl2, lO⟩
      rw [show (0 : Int) + (i : Int) = (i : Int) by omega]
      refine ⟨_, rfl, _, rfl, _, _, rfl, rfl, _, _, rfl, by decide, by decide, fun n2 => ?_⟩
      refine ⟨⟨c, n2, i, rfl, rfl, rfl, by omega⟩, fun n3 => ?_⟩
      refine ⟨_, rfl, _, _, rfl, rfl, ⟨by decide, by decide⟩, _, _, rfl, rfl, (by show (0 : Int) < 4; decide), _, rfl, _, _, rfl, rfl, _, rfl, ?_⟩
      refine ite2 (fun _ => ?_) (fun _ => ⟨O, n3, _, rfl, s2, hl2, Nat.le_succ_of_le lO⟩)
      have hz : (0 : Int) < (((O.map V.int).length : Nat) : Int) + 1 := by omega
      have z0 := Int.emod_nonneg (n3 / 512) (show (((O.map V.int).length : Nat) : Int) + 1 ≠ 0 by omega)
      have z1 := Int.emod_lt_of_pos (n3 / 512) hz
      refine ⟨_, rfl, .inl ⟨rfl, _, SqL.of hl2⟩, _, rfl, _, _, rfl, rfl, ⟨by decide, by decide⟩, _, rfl, l, _, rfl, .inl (SqL.of hl2), _, _, rfl, rfl, _, _, rfl, rfl, hz, _, rfl, l, _, _, _, rfl, rfl, hl2, z0, by omega, by rw [List.length_map]; omega, ?_⟩
      refine ⟨O.take (n3 / 512 % ((((O.map V.int).length : Nat) : Int) + 1)).toNat ++ (i : Int) :: O.drop (n3 / 512 % ((((O.map V.int).length : Nat) : Int) + 1)).toNat, n3, _, rfl, fun b o e => ?_, ?_, ?_⟩
      · rw [upd_ne (ne_of_none e hl)]; exact s2 b o e
      · rw [upd_same, List.map_append, List.map_cons, List.map_take, List.map_drop]
      · rw [List.length_append, List.length_cons, List.length_take, List.length_drop]
        omega
    · rintro σ H2 ⟨O, n, e5, rfl, s2, hl2, lO⟩
      exact ⟨_, rfl, hQ l O H2 s2 hl2 (by omega)⟩
end
end K13

/-! ### k13: listed, hangs -/
namespace K13
open PySem L2 PyProof.Rows
section
variable {P : Program} {w : World} {K : PySem.W.Frag} {mg : Str → Option Value} {base : Heap}
def spListed : Sp := fun vs H Q _ => ∃ (p : Addr) (qs : List Addr) (ts : List (List Int)), vs = [.ref p] ∧ H p = some (.lst (qs.map V.ref)) ∧ LsH H qs ts ∧ (∀ t ∈ ts, t ≠ [] ∧ t.Pairwise (· < ·) ∧ t.length < 64) ∧ ∀ H', Same H H' → Q (.bl true) H'
theorem scListed : FnScope ["_law_found", "_law_part"] ["_law_found"] (defScope sListed) := ⟨rfl, rfl, rfl, by decide +kernel, rfl, by decide +kernel, by decide +kernel⟩
theorem nd_own1o : ([".0", "_law_one"] : List Str).Nodup := by decide +kernel
theorem all_true (n : Nat) : (List.replicate n true).all id = true := by simp
theorem ok_listed {f fW : Addr} {fd fdW : FuncData} (F : Fun K "_law_listed" "_law_listed" sListed f fd) (k : Kit K mg) (gall : mg "all" = none) (gsrt : mg "sorted" = none)
    (GW : FnOk P w K mg base CX0 1 fW fdW ["_law_found"] spWhole) (mW : mg "_law_whole" = some (.ref fW)) (kW : PySem.W.keepIn K (.ref fW) = true) (bW : Binds K fdW ["_law_found"] []) :
    FnOk P w K mg base CX0 2 f fd ["_law_found"] spListed := by
  refine F.ok scListed (fun vs H Q E h => ?_) (fun cdv A outer s H vs Q E hr h => ?_)
  · obtain ⟨p, qs, ts, rfl, _⟩ := h
    rfl
  · obtain ⟨p, qs, ts, rfl, hp, hL, ht, hQ⟩ := h
    have hu := hu_of hr
    have hu0 : (cxOf CX0 P w K mg base ["_law_found", "_law_part"] "_law_listed" (defScope sListed) f cdv A outer s H E).nox.A.units < cLine := Nat.lt_of_succ_lt hu
    refine ⟨_, pss_cons (ps_if (pt_not (pt_val (pe_callB call_isV (by rfl) k.gis boot_isinstance (pa_cons (pv 0) (pa_cons (pe_bltn (v := .ty "list") (by rfl) k.glist bt_list rfl) pa_nil))))) (pss_one (ps_ret pe_bl)) pss_nil)
      (pss_cons (ps_for PassesOwn.never rfl (pi_list (pv 0)) (pg_name (i := 1) scListed.nd rfl (Or.inl rfl))
        (pss_cons (ps_if (pw_or (pt_not (pt_val (pe_callB call_isV (by rfl) k.gis boot_isinstance (pa_cons (pv 1) (pa_cons (pe_bltn (v := .ty "list") (by rfl) k.glist bt_list rfl) pa_nil)))))
            (pw_or (pt_cmpR (op_eqI hu0) (pv 1) (pe_lst pa_nil) (nomark _)) (pw_or1 (pt_cmpR (op_neI hu0) (pv 1) (pe_callB call_sortedI (by rfl) gsrt boot_sorted (pa_cons (pv 1) pa_nil)) (nomark _))))).pt (pss_one (ps_ret pe_bl)) pss_nil)
        (pss_one (ps_if (pt_not (pt_val (pe_callB (call_allB rfl) (by rfl) gall bt_all (pa_cons (pe_comp (g := gName 1) (own := [".0", "_law_one"]) (cl := []) (caps := []) (js := []) rfl (caps0 rfl rfl (by decide +kernel) (by decide +kernel)) (pi_list (pv 1))
            (fun pins C s H1 fp => pg_name (i := 1) nd_own1o rfl (Or.inl rfl)) (fun pins C s H1 fp => pts_nil)
            (fun pins C s H1 fp => pe_call GW hr rfl mW kW bW .nil pass0 (pa_cons (pv 1) pa_nil))) pa_nil)))) (pss_one (ps_ret pe_bl)) pss_nil))))
      (pss_one (ps_ret pe_bl))), ?_⟩
    refine ⟨_, rfl, _, "list", _, true, rfl, .lst hp, k.ll, ⟨true, rfl, iteF ?_⟩⟩
    refine ⟨_, rfl, p, rfl, ⟨_, SqL.of hp⟩, for_list (K := K) (a := p) (xs := qs.map V.ref) (fun i σ H2 => ∃ e1, σ = [some (.ref p), e1] ∧ Same H H2) ⟨none, rfl, Same.refl H⟩ (fun i σ H2 _ ⟨_, _, s2⟩ => SqL.of (s2 p _ hp)) ?_ ?_⟩
    · rintro i x σ H2 hi ⟨e1, rfl, s2⟩
      obtain ⟨r, t, rfl, er, et, hr2⟩ := ref_at (LsH.same s2 hL) hi
      obtain ⟨tn, tl, t64⟩ := ht t (List.mem_of_getElem? et)
      refine ⟨_, rfl, _, "list", _, true, rfl, .lst hr2, k.ll, ⟨true, rfl, iteF ?_⟩⟩
      refine ⟨_, rfl, Nat.zero_le _, fun l hl => ?_⟩
      have s3 : Same H2 (upd H2 l (.lst [])) := Same.new hl
      refine ⟨r, l, t, [], rfl, rfl, SqL.of (s3 r _ hr2), SqL.of upd_same, _, rfl, ?_⟩
      rw [decide_eq_false tn]
      refine iteF ?_
      refine ⟨_, rfl, _, rfl, r, t, rfl, SqL.of (s3 r _ hr2), t64, fun t' q hp' hs' hq => ?_⟩
      have e : t' = t := G13.sorted_self hp' hs' tl
      subst e
      have s4 := s3.trans (Same.new (o := .lst (t'.map V.int)) hq)
      refine ⟨r, q, t', t', rfl, rfl, SqL.of (s4 r _ hr2), SqL.of upd_same, _, rfl, ?_⟩
      rw [decide_eq_true rfl]
      refine iteF ?_
      have hr4 := s4 r _ hr2
      have s04 := s2.trans s4
      unfold tNext
      dsimp only
      show tIfS _ _ _ _ _ (upd (upd H2 l (.lst [])) q (.lst (t'.map V.int)))
      generalize upd (upd H2 l (.lst [])) q (.lst (t'.map V.int)) = H4 at hr4 s04 ⊢
      refine ⟨_, rfl, r, rfl, ⟨_, SqL.of hr4⟩, fun D hD => ?_⟩
      refine turns_list (K := K) (a := r) (xs := t'.map V.int) (fun i ys σ H5 => ∃ (e0 e1 : Option V), ys = (List.replicate i true).map V.bl ∧ i ≤ t'.length ∧ σ = [e0, e1] ∧ Same H4 H5 ∧ H5 D = some (.lst ys)) ⟨none, none, rfl, Nat.zero_le _, rfl, Same.new hD, upd_same⟩ ?_ ?_ ?_
      · rintro i ys σ H5 ⟨e0, e1, rfl, li, rfl, s5, hD5⟩
        refine ⟨hD5, small1000 ?_, SqL.of (s5 r _ hr4)⟩
        rw [List.length_map, List.length_replicate]; omega
      · rintro j x ys σ H5 hj ⟨e0, e1, rfl, li, rfl, s5, hD5⟩
        obtain ⟨y, rfl, ey⟩ := map_int_at hj
        have hjl : j < (t'.map V.int).length := (List.getElem?_eq_some_iff.mp hj).1
        have hjl' : j < t'.length := by rw [List.length_map] at hjl; exact hjl
        unfold gName
        dsimp only
        refine yes_of ?_
        refine ⟨_, rfl, y, rfl, hD5, Nxt.mk hjl ⟨_, _, ?_, hjl', rfl, fun b o e => ?_, ?_⟩⟩
        · rw [List.replicate_succ', List.map_append]; rfl
        · rw [upd_ne (ne_of_none e hD)]; exact s5 b o e
        · exact upd_same
      · rintro ys σ H5 ⟨e0, e1, rfl, li, rfl, s5, hD5⟩
        refine ⟨D, _, rfl, SqL.of hD5, ⟨true, ?_, iteF ⟨_, rfl, s04.trans s5⟩⟩⟩
        rw [all_true]
    · rintro σ H2 ⟨e1, rfl, s2⟩
      exact hQ H2 s2
/-! hangs -/
/-- the state of the walk: those ahead of place k are looked at; at place k with the ties T' -/
structure Bfs (T : List Mt.Tri) (part row : List Int) (h : Int) (k : Nat) (T' : List Mt.Tri) : Prop where
  nd : row.Nodup
  sub : ∀ y ∈ row, y ∈ part
  hd : row[0]? = some h
  old : ∀ (j : Nat) a, j < k → row[j]? = some a → ∀ b, G13.tied T a b → b ∈ part → b ∈ row
  now : ∀ a, row[k]? = some a → ∀ b, G13.tied T' a b → b ∈ part → b ∈ row
section
variable {T T' : List Mt.Tri} {part row : List Int} {h : Int} {k : Nat}
theorem Bfs.len (B : Bfs T part row h k T') : row.length ≤ part.length := G13.len_le B.nd B.sub
theorem snoc_at {l : List Int} {j : Nat} {a y : Int} (e : (l ++ [y])[j]? = some a) (hj : j < l.length) : l[j]? = some a := by
  rw [List.getElem?_append_left hj] at e
  exact e
/-- one more point of the row -/
theorem Bfs.push (B : Bfs T part row h k T') (hk : k < row.length) {y : Int} (hy : y ∈ part) (hn : y ∉ row) : Bfs T part (row ++ [y]) h k T' := by
  refine ⟨?_, fun z hz => ?_, ?_, fun j a hj e b t hb => ?_, fun a e b t hb => ?_⟩
  · rw [List.nodup_append]
    refine ⟨B.nd, by simp, fun a ha b hb => ?_⟩
    rw [List.mem_singleton] at hb
    subst hb
    exact fun e => hn (e ▸ ha)
  · rcases List.mem_append.mp hz with q | q
    · exact B.sub z q
    · rw [List.mem_singleton] at q
      exact q ▸ hy
  · rw [List.getElem?_append_left (by omega)]; exact B.hd
  · exact List.mem_append_left _ (B.old j a hj (snoc_at e (by omega)) b t hb)
  · exact List.mem_append_left _ (B.now a (snoc_at e hk) b t hb)
/-- one tie more is looked at -/
theorem Bfs.tie (B : Bfs T part row h k T') {t : Mt.Tri} (h1 : ∀ a, row[k]? = some a → t.1 = a → t.2.1 ∈ part → t.2.1 ∈ row) (h2 : ∀ a, row[k]? = some a → t.2.1 = a → t.1 ∈ part → t.1 ∈ row) : Bfs T part row h k (T' ++ [t]) := by
  refine ⟨B.nd, B.sub, B.hd, B.old, fun a e b q hb => ?_⟩
  obtain ⟨u, hu, q⟩ := q
  rcases List.mem_append.mp hu with hu | hu
  · exact B.now a e b ⟨u, hu, q⟩ hb
  · rw [List.mem_singleton] at hu
    subst hu
    rcases q with ⟨q1, q2⟩ | ⟨q1, q2⟩
    · rw [← q2] at hb ⊢; exact h1 a e q1 hb
    · rw [← q1] at hb ⊢; exact h2 a e q2 hb
theorem tied_nil {a b : Int} : ¬ G13.tied [] a b := fun ⟨t, ht, _⟩ => by cases ht
/-- the next place -/
theorem Bfs.next (B : Bfs T part row h k T) : Bfs T part row h (k + 1) [] := by
  refine ⟨B.nd, B.sub, B.hd, fun j a hj e b t hb => ?_, fun a _ b t => absurd t tied_nil⟩
  by_cases q : j = k
  · subst q; exact B.now a e b t hb
  · exact B.old j a (by omega) e b t hb
theorem Bfs.skip (B : Bfs T part row h k []) (hk : row.length ≤ k) : Bfs T part row h (k + 1) [] := by
  refine ⟨B.nd, B.sub, B.hd, fun j a hj e b t hb => ?_, fun a _ b t => absurd t tied_nil⟩
  have := (List.getElem?_eq_some_iff.mp e).1
  exact B.old j a (by omega) e b t hb
theorem Bfs.start (hh : part[0]? = some h) : Bfs T part [h] h 0 [] :=
  ⟨by simp, fun y hy => by rw [List.mem_singleton] at hy; exact hy ▸ List.mem_of_getElem? hh, rfl, fun j a hj => absurd hj (Nat.not_lt_zero _), fun a _ b t => absurd t tied_nil⟩
theorem Bfs.done (B : Bfs T part row h part.length []) (hh : part[0]? = some h) (g : G13.Hangs T part h) : ∀ y, y ∈ row ↔ y ∈ part := by
  have hl := B.len
  have all := G13.hangs_all g (List.mem_of_getElem? hh) (List.mem_of_getElem? B.hd) fun a ha b t hb => by
    obtain ⟨j, hj, e⟩ := List.getElem_of_mem ha
    exact B.old j a (by omega) (by rw [← e]; simp [hj]) b t hb
  exact fun y => ⟨B.sub y, all y⟩
end
theorem inV_int (x : Int) (xs : List Int) : inV (.int x) (xs.map V.int) = decide (x ∈ xs) := by
  unfold inV
  rw [Bool.eq_iff_iff, List.any_eq_true, decide_eq_true_iff]
  constructor
  · rintro ⟨v, hv, e⟩
    obtain ⟨y, hy, rfl⟩ := List.mem_map.mp hv
    have : y = x := by simpa [eqV] using e
    exact this ▸ hy
  · intro hx
    exact ⟨.int x, List.mem_map.mpr ⟨x, hx, rfl⟩, by simp [eqV]⟩
theorem flat_ints (xs : List Int) : (xs.map V.int).all flatV = true := by
  rw [List.all_eq_true]
  intro v hv
  obtain ⟨y, _, rfl⟩ := List.mem_map.mp hv
  rfl
def spHangs (K : PySem.W.Frag) : Sp := fun vs H Q _ => ∃ (p r : Addr) (part : List Int) (rs : List Addr) (T : List Mt.Tri) (h : Int), vs = [.ref p, .ref r] ∧ H p = some (.lst (part.map V.int)) ∧ RowsAt K H r rs T ∧ part[0]? = some h ∧ part.Pairwise (· < ·) ∧ part.length ≤ 24 ∧ G13.Hangs T part h ∧ ∀ H', Same H H' → Q (.bl true) H'
abbrev nmH : List Str := ["_law_part", "_law_rows_here", "_law_row", "_law_k", "_law_a", "_law_b", "_law_heavy"]
theorem scHangs : FnScope nmH ["_law_part", "_law_rows_here"] (defScope sHangs) := ⟨rfl, rfl, rfl, by decide +kernel, rfl, by decide +kernel, by decide +kernel⟩
/-- one end looked at: the other is put behind the row, if it is of the part and not there yet -/
def tEnd (i j : Nat) : TS := fun D σ H => ∃ (p l : Addr) (part row : List Int) (k : Nat) (a x y : Int), σ[0]? = some (some (.ref p)) ∧ σ[2]? = some (some (.ref l)) ∧ σ[3]? = some (some (.int k)) ∧ σ[i]? = some (some (.int x)) ∧ σ[j]? = some (some (.int y)) ∧
  H p = some (.lst (part.map V.int)) ∧ H l = some (.lst (row.map V.int)) ∧ row[k]? = some a ∧ row.length < 1000 ∧ (x = a → y ∈ part → y ∉ row → D.nx σ (upd H l (.lst ((row ++ [y]).map V.int)))) ∧ (¬ (x = a ∧ y ∈ part ∧ y ∉ row) → D.nx σ H)
/-- between two ties -/
def PHang (p r l : Addr) (T : List Mt.Tri) (part : List Int) (h : Int) (k : Nat) (H : Hp) (i : Nat) (σ : L2.St) (H3 : Hp) : Prop := ∃ (row : List Int) (e4 e5 e6 : Option V), σ = [some (.ref p), some (.ref r), some (.ref l), some (.int k), e4, e5, e6] ∧ Same H H3 ∧ H3 l = some (.lst (row.map V.int)) ∧ k < row.length ∧ Bfs T part row h k (T.take i)
theorem ok_hangs {f : Addr} {fd : FuncData} (F : Fun K "_law_hangs" "_law_hangs" sHangs f fd) (glen : mg "len" = none) (grange : mg "range" = none) (gsrt : mg "sorted" = none) : FnOk P w K mg base CX0 1 f fd ["_law_part", "_law_rows_here"] (spHangs K) := by
  refine F.ok scHangs (fun vs H Q E h => ?_) (fun cdv A outer s H vs Q E hr h => ?_)
  · obtain ⟨p, r, part, rs, T, h, rfl, _⟩ := h
    rfl
  · obtain ⟨p, r, part, rs, T, h, rfl, hp, R, hh, hlt, hlen, hg, hQ⟩ := h
    have hu := hu_of hr
    have hu0 : (cxOf CX0 P w K mg base nmH "_law_hangs" (defScope sHangs) f cdv A outer s H E).nox.A.units < cLine := Nat.lt_of_succ_lt hu
    refine ⟨_, pss_cons (ps_set (i := 2) scHangs.nd rfl (Or.inl rfl) (pe_lst (pa_cons (pe_ix ix_list (pv 0) pe_int (fun _ _ => rfl)) pa_nil)))
      (pss_cons (ps_for PassesOwn.never rfl (pi_range1 rfl grange (pa_cons (pe_callB call_len_seq (by rfl) glen PySem.boot_len (pa_cons (pv 0) pa_nil)) pa_nil)) (pg_name (i := 3) scHangs.nd rfl (Or.inl rfl))
        (pss_one (ps_if (pt_cmpR op_lt (pv 3) (pe_callB call_len_seq (by rfl) glen PySem.boot_len (pa_cons (pv 2) pa_nil)) (nomark _))
          (pss_one (ps_for PassesOwn.never rfl (pi_list (pv 1)) (pg_tup rfl (pgs_cons (pg_name (i := 4) scHangs.nd rfl (Or.inl rfl)) (pgs_cons (pg_name (i := 5) scHangs.nd rfl (Or.inl rfl)) (pgs_cons (pg_name (i := 6) scHangs.nd rfl (Or.inl rfl)) pgs_nil))))
            (pss_cons (PS.imp (t' := tEnd 4 5) (ps_if (pw_and (pt_cmpR op_eq (pv 4) (pe_ix ix_list (pv 2) (pv 3) (fun _ _ => rfl)) (nomark _)) (pw_and (pt_cmpR op_in_seq (pv 5) (pv 0) (by with_unfolding_all rfl)) (pw_and1 (pt_cmpR op_notIn_seq (pv 5) (pv 2) (by with_unfolding_all rfl))))).pt
                (pss_one (ps_expr (pe_bm PySem.F.plainAttrs_list PySem.F.slot_list_append PySem.F.type_list_append mt_append (pv 2) (pa_cons (pv 5) pa_nil)))) pss_nil) ?i1)
            (pss_one (PS.imp (t' := tEnd 5 4) (ps_if (pw_and (pt_cmpR op_eq (pv 5) (pe_ix ix_list (pv 2) (pv 3) (fun _ _ => rfl)) (nomark _)) (pw_and (pt_cmpR op_in_seq (pv 4) (pv 0) (by with_unfolding_all rfl)) (pw_and1 (pt_cmpR op_notIn_seq (pv 4) (pv 2) (by with_unfolding_all rfl))))).pt
                (pss_one (ps_expr (pe_bm PySem.F.plainAttrs_list PySem.F.slot_list_append PySem.F.type_list_append mt_append (pv 2) (pa_cons (pv 4) pa_nil)))) pss_nil) ?i2)))))
          pss_nil)))
      (pss_one (ps_ret (pe_cmpR (op_eqI hu0) (pe_callB call_sortedI (by rfl) gsrt boot_sorted (pa_cons (pv 2) pa_nil)) (pv 0) (nomark _))))), ?_⟩
    case i1 =>
      rintro D σ H ⟨p, l, part, row, k, a, x, y, e0, e2, e3, ex, ey, hp, hl, hk, lr, h1, h2⟩
      have ha := atI_nat (xs := row.map V.int) (j := k) (v := .int a) (by rw [List.getElem?_map, hk]; rfl)
      refine ⟨_, ex, _, e2, _, e3, l, _, _, _, rfl, rfl, SqL.of hl, ha, rfl, _, rfl, ?_⟩
      refine ite2 (fun c => ?_) (fun c => iteF (h2 fun z => c (by rw [z.1]; simp)))
      have c := V.int.inj (of_decide_eq_true c)
      refine ⟨_, ey, _, e0, p, _, rfl, .inl (SqL.of hp), rfl, flat_ints _, _, rfl, ?_⟩
      rw [if_neg Bool.false_ne_true, inV_int]
      refine ite2 (fun c2 => ?_) (fun c2 => iteF (h2 fun z => c2 (decide_eq_true z.2.1)))
      refine ⟨_, ey, _, e2, l, _, rfl, .inl (SqL.of hl), rfl, flat_ints _, _, rfl, ?_⟩
      rw [if_pos rfl, inV_int]
      refine ite2 (fun c3 => ?_) (fun c3 => h2 fun z => c3 (by rw [decide_eq_false z.2.2]; rfl))
      have ny : y ∉ row := fun z => by rw [decide_eq_true z] at c3; cases c3
      refine ⟨_, e2, .inl ⟨rfl, _, SqL.of hl⟩, _, ey, l, _, _, rfl, rfl, hl, small1000 (by rw [List.length_map]; omega), ?_⟩
      have := h1 c (of_decide_eq_true c2) ny
      rw [List.map_append] at this
      exact this
    case i2 =>
      rintro D σ H ⟨p, l, part, row, k, a, x, y, e0, e2, e3, ex, ey, hp, hl, hk, lr, h1, h2⟩
      have ha := atI_nat (xs := row.map V.int) (j := k) (v := .int a) (by rw [List.getElem?_map, hk]; rfl)
      refine ⟨_, ex, _, e2, _, e3, l, _, _, _, rfl, rfl, SqL.of hl, ha, rfl, _, rfl, ?_⟩
      refine ite2 (fun c => ?_) (fun c => iteF (h2 fun z => c (by rw [z.1]; simp)))
      have c := V.int.inj (of_decide_eq_true c)
      refine ⟨_, ey, _, e0, p, _, rfl, .inl (SqL.of hp), rfl, flat_ints _, _, rfl, ?_⟩
      rw [if_neg Bool.false_ne_true, inV_int]
      refine ite2 (fun c2 => ?_) (fun c2 => iteF (h2 fun z => c2 (decide_eq_true z.2.1)))
      refine ⟨_, ey, _, e2, l, _, rfl, .inl (SqL.of hl), rfl, flat_ints _, _, rfl, ?_⟩
      rw [if_pos rfl, inV_int]
      refine ite2 (fun c3 => ?_) (fun c3 => h2 fun z => c3 (by rw [decide_eq_false z.2.2]; rfl))
      have ny : y ∉ row := fun z => by rw [decide_eq_true z] at c3; cases c3
      refine ⟨_, e2, .inl ⟨rfl, _, SqL.of hl⟩, _, ey, l, _, _, rfl, rfl, hl, small1000 (by rw [List.length_map]; omega), ?_⟩
      have := h1 c (of_decide_eq_true c2) ny
      rw [List.map_append] at this
      exact this
    -- row = [part[0]]
    have h0 := atI_nat (xs := part.map V.int) (j := 0) (v := .int h) (by rw [List.getElem?_map, hh]; rfl)
    refine ⟨_, rfl, p, _, _, _, rfl, rfl, SqL.of hp, h0, (by show 1 ≤ sizeLine; decide), fun l hl => ?_⟩
    have s1 : Same H (upd H l (.lst [.int h])) := Same.new hl
    have l1 : upd H l (.lst [.int h]) l = some (.lst [.int h]) := upd_same
    dsimp only
    show tSeq _ _ _ _ (upd H l (.lst [.int h]))
    generalize upd H l (.lst [.int h]) = H1 at s1 l1 ⊢
    refine ⟨_, rfl, p, _, rfl, .inl (SqL.of (s1 p _ hp)), _, rfl, by omega, by rw [List.length_map]; omega, for_range (lo := 0) (n := (((part.map V.int).length : Nat) : Int).toNat)
      (fun k σ H2 => ∃ (row : List Int) (e3 e4 e5 e6 : Option V), σ = [some (.ref p), some (.ref r), some (.ref l), e3, e4, e5, e6] ∧ Same H H2 ∧ H2 l = some (.lst (row.map V.int)) ∧ Bfs T part row h k [])
      ⟨[h], none, none, none, none, rfl, s1, l1, Bfs.start hh⟩ ?_ ?_⟩
    · rintro k σ H2 hk ⟨row, e3, e4, e5, e6, rfl, s2, hl2, B⟩
      rw [show (0 : Int) + (k : Int) = (k : Int) by omega]
      have lr := B.len
      refine ⟨_, rfl, _, rfl, l, _, rfl, .inl (SqL.of hl2), _, _, rfl, rfl, _, rfl, ?_⟩
      rw [List.length_map]
      refine ite2 (fun c => ?_) (fun c => ⟨row, _, _, _, _, rfl, s2, hl2, B.skip ?_⟩)
      · have c := of_decide_eq_true c
        have hkl : k < row.length := by omega
        refine ⟨_, rfl, r, rfl, ⟨_, (R.same s2).ls⟩, for_list (K := K) (a := r) (xs := rs.map V.ref)
          (PHang p r l T part h k H)
          ⟨row, _, _, _, rfl, s2, hl2, hkl, B⟩ (fun i σ H3 _ ⟨_, _, _, _, _, s3, _⟩ => (R.same s3).ls) ?_ ?_⟩
        · rintro i x σ H3 hi ⟨row, e4, e5, e6, rfl, s3, hl3, hkl, B⟩
          obtain ⟨y, t, rfl, et, hy⟩ := (R.same s3).at_ hi
          have etk : T.take (i + 1) = T.take i ++ [t] := by rw [List.take_succ, et]; rfl
          obtain ⟨a, ha⟩ : ∃ a, row[k]? = some a := ⟨row[k], by simp [hkl]⟩
          have lr := B.len
          refine ⟨y, _, rfl, SqT.of hy, rfl, _, _, rfl, _, _, rfl, _, _, rfl, rfl, ?_⟩
          -- behind the first end: the row row2, in which t.2.1 stands if it must
          have second : ∀ (row2 : List Int) (H4 : Hp), Same H H4 → H4 l = some (.lst (row2.map V.int)) → k < row2.length → row2[k]? = some a → Bfs T part row2 h k (T.take i) → (t.1 = a → t.2.1 ∈ part → t.2.1 ∈ row2) →
              tEnd 5 4 ({ nx := PHang p r l T part h k H (i + 1), rt := Q } : Ends) [some (.ref p), some (.ref r), some (.ref l), some (.int k), some (.int t.1), some (.int t.2.1), some (.int t.2.2)] H4 := by
            intro row2 H4 s4 hl4 hk2 ha2 B2 h12
            have lr2 := B2.len
            refine ⟨p, l, part, row2, k, a, t.2.1, t.1, rfl, rfl, rfl, rfl, rfl, s4 p _ hp, hl4, ha2, by omega, fun q1 q2 q3 => ?_, fun q => ?_⟩
            · have B3 := B2.push hk2 q2 q3
              refine ⟨row2 ++ [t.1], _, _, _, rfl, fun b o e => ?_, upd_same, by rw [List.length_append]; omega, ?_⟩
              · rw [upd_ne (ne_of_none e hl)]; exact s4 b o e
              · rw [etk]
                refine B3.tie (fun a' e' z1 z2 => ?_) (fun a' e' z1 z2 => List.mem_append_right _ (.head _))
                rw [List.getElem?_append_left hk2, ha2] at e'
                cases e'
                exact List.mem_append_left _ (h12 z1 z2)
            · refine ⟨row2, _, _, _, rfl, s4, hl4, hk2, ?_⟩
              rw [etk]
              refine B2.tie (fun a' e' z1 z2 => ?_) (fun a' e' z1 z2 => ?_)
              · rw [ha2] at e'; cases e'; exact h12 z1 z2
              · rw [ha2] at e'; cases e'
                apply Classical.byContradiction
                intro z3
                exact q ⟨z1, z2, z3⟩
          refine ⟨p, l, part, row, k, a, t.1, t.2.1, rfl, rfl, rfl, rfl, rfl, s3 p _ hp, hl3, ha, by omega, fun q1 q2 q3 => ?_, fun q => ?_⟩
          · refine second (row ++ [t.2.1]) _ (fun b o e => ?_) upd_same (by rw [List.length_append]; omega) (by rw [List.getElem?_append_left hkl]; exact ha) (B.push hkl q2 q3) fun _ _ => List.mem_append_right _ (.head _)
            rw [upd_ne (ne_of_none e hl)]; exact s3 b o e
          · refine second row _ s3 hl3 hkl ha B fun z1 z2 => ?_
            apply Classical.byContradiction
            intro z3
            exact q ⟨z1, z2, z3⟩
        · rintro σ H3 ⟨row, e4, e5, e6, rfl, s3, hl3, hkl, B⟩
          rw [List.length_map, R.len, List.take_length] at B
          exact ⟨row, _, _, _, _, rfl, s3, hl3, B.next⟩
      · simp only [decide_eq_true_eq] at c
        omega
    · rintro σ H2 ⟨row, e3, e4, e5, e6, rfl, s2, hl2, B⟩
      rw [List.length_map, Int.toNat_natCast] at B
      have lr := B.len
      refine ⟨_, rfl, l, row, rfl, SqL.of hl2, by omega, fun t' q ht hst hq => ?_⟩
      have e : t' = part := G13.sorted_is ht hst B.nd hlt (B.done hh hg)
      subst e
      have s3 := s2.trans (Same.new (o := .lst (t'.map V.int)) hq)
      refine ⟨_, rfl, q, p, t', t', rfl, rfl, SqL.of upd_same, SqL.of (s3 p _ hp), ?_⟩
      rw [decide_eq_true rfl]
      exact hQ _ s3
end
end K13

/-! ### k13: right, its last part -/
namespace K13
open PySem L2 PyProof.Rows
/-- what the law's right may use -/
structure CallsR (P : Program) (w : World) (K : PySem.W.Frag) (mg : Str → Option Value) (base : Heap) (C : Addr) : Prop where
  web : TxtW K mg C
  kit : Kit K mg
  gmin : mg "min" = none
  gmax : mg "max" = none
  glen : mg "len" = none
  grange : mg "range" = none
  gall : mg "all" = none
  par : ∃ f fd, mg "parts" = some (.ref f) ∧ PySem.W.keepIn K (.ref f) = true ∧ FnOk P w K mg base CX0 3 f fd ["web", "out"] (spParts C K) ∧ Binds K fd ["web", "out"] []
  odd : ∃ f fd, mg "odd_parts" = some (.ref f) ∧ PySem.W.keepIn K (.ref f) = true ∧ FnOk P w K mg base CX0 4 f fd ["web", "out"] (spOdd C K) ∧ Binds K fd ["web", "out"] []
  lis : ∃ f fd, mg "_law_listed" = some (.ref f) ∧ PySem.W.keepIn K (.ref f) = true ∧ FnOk P w K mg base CX0 2 f fd ["_law_found"] spListed ∧ Binds K fd ["_law_found"] []
  han : ∃ f fd, mg "_law_hangs" = some (.ref f) ∧ PySem.W.keepIn K (.ref f) = true ∧ FnOk P w K mg base CX0 1 f fd ["_law_part", "_law_rows_here"] (spHangs K) ∧ Binds K fd ["_law_part", "_law_rows_here"] []
abbrev nmR : List Str := ["_law_web", "_law_rows_here", "_law_many", "_law_points", "_law_handed", "_law_found", "_law_part", "_law_place", "_law_k", "_law_one", "_law_a", "_law_b", "_law_heavy", "_law_kept", "_law_odd"]
theorem scRight : FnScope nmR ["_law_web", "_law_rows_here", "_law_many", "_law_points"] (defScope sRight) := ⟨rfl, rfl, rfl, by decide +kernel, rfl, by decide +kernel, by decide +kernel⟩
/-- what stood at the call -/
structure Bas (C : Addr) (K : PySem.W.Frag) (H : Hp) (p r o : Addr) (m : Int) (rs : List Addr) (T : List Mt.Tri) (O : List Int) : Prop where
  W : WebAt C H p m T
  R : RowsAt K H r rs T
  S : SqL K H o (O.map V.int)
  l : O.length ≤ 24
/-- behind the first statements -/
structure Rd1 (H0 H : Hp) (hd f : Addr) (m : Int) (T : List Mt.Tri) (O : List Int) (qs : List Addr) : Prop where
  s : Same H0 H
  fh : H0 hd = none
  ff : H0 f = none
  hh : H hd = some (.lst (O.map V.int))
  hf : H f = some (.lst (qs.map V.ref))
  hL : LsH H qs (G13.partsTo m T O m)
  nq : ∀ q ∈ qs, H0 q = none ∧ q ≠ f ∧ q ≠ hd
  nf : hd ≠ f
theorem Rd1.same {H0 H H' : Hp} {hd f : Addr} {m : Int} {T : List Mt.Tri} {O : List Int} {qs : List Addr} (R : Rd1 H0 H hd f m T O qs) (s : Same H H') : Rd1 H0 H' hd f m T O qs :=
  ⟨R.s.trans s, R.fh, R.ff, s _ _ R.hh, s _ _ R.hf, LsH.same s R.hL, R.nq, R.nf⟩
/-- the rest of the body, from some statement on -/
def tR (C : Addr) (K : PySem.W.Frag) : TS := fun D σ H => ∃ (p r o hd f : Addr) (m : Int) (rs : List Addr) (T : List Mt.Tri) (O : List Int) (qs : List Addr) (H0 : Hp) (e6 e7 e8 e9 e10 e11 e12 e13 e14 : Option V),
  σ = [some (.ref p), some (.ref r), some (.int m), some (.ref o), some (.ref hd), some (.ref f), e6, e7, e8, e9, e10, e11, e12, e13, e14] ∧ Bas C K H0 p r o m rs T O ∧ Rd1 H0 H hd f m T O qs ∧ ∀ H', Same H0 H' → D.rt (.bl true) H'
theorem nd_ownp : ([".0", "_law_part"] : List Str).Nodup := by decide +kernel
section
variable {P : Program} {w : World} {K : PySem.W.Frag} {mg : Str → Option Value} {base : Heap} {C : Addr}
theorem parts_props {m : Int} {T : List Mt.Tri} {O : List Int} (m1 : m ≤ 24) : ∀ t ∈ G13.partsTo m T O m, t ≠ [] ∧ t.Pairwise (· < ·) ∧ t.length < 64 := fun t ht => by
  obtain ⟨x, hx, rfl⟩ := List.mem_map.mp ht
  obtain ⟨⟨x0, x1⟩, fx⟩ := G13.firsts_mem.mp hx
  refine ⟨fun e => ?_, G13.comp_lt, ?_⟩
  · have := G13.in_comp (T := T) (O := O) x0 x1
    rw [e] at this
    cases this
  · have := G13.comp_len (m := m) (T := T) (O := O) (x := x)
    omega
abbrev XR (P : Program) (w : World) (K : PySem.W.Frag) (mg : Str → Option Value) (base : Heap) (f : Addr) (cdv : Value) (A : Around) (outer : List Env) (s : Shared) (H : Hp) (E : XK) : Cx := (cxOf CX0 P w K mg base nmR "_law_right" (defScope sRight) f cdv A outer s H E).nox
theorem r9 {f : Addr} {cdv : Value} {A : Around} {outer : List Env} {s : Shared} {H : Hp} {E : XK} (G : CallsR P w K mg base C) (hr : Room 4 (A.deeper (envOfC "_law_right" (defScope sRight) s.heap.objs.size f cdv))) :
    PSs (XR P w K mg base f cdv A outer s H E) ((defBody sRight).drop 9) (tR C K) := by
  obtain ⟨fP, fdP, mP, kP, GP, bP⟩ := G.par
  obtain ⟨fO, fdO, mO, kO, GO, bO⟩ := G.odd
  obtain ⟨fL, fdL, mL, kL, GL, bL⟩ := G.lis
  have hu := hu_of hr
  have hr2 : Room 2 (XR P w K mg base f cdv A outer s H E).A := hr.mono (by decide)
  have hr3 : Room 3 (XR P w K mg base f cdv A outer s H E).A := hr.mono (by decide)
  refine' PSs.imp (t' := tR C K) (pss_cons ?s9 (pss_cons ?s10 (pss_cons ?s11 (pss_cons ?s12 (pss_cons ?s13 (pss_cons ?s14 (pss_one ?s15))))))) ?i
  case s9 =>
    refine' ps_comp (i := 13) (own := [".0", "_law_part"]) (cl := []) (caps := []) (js := []) ?qa ?qb ?qc ?qd ?qe ?qf ?qg ?qh ?qi ?qj
    case qa => exact rfl
    case qb => exact caps0 rfl rfl (by decide +kernel) (by decide +kernel)
    case qc => exact pi_list (pv 5)
    case qd => exact fun pins C s H1 fp => pg_name (i := 1) nd_ownp rfl (Or.inl rfl)
    case qe => exact fun pins C s H1 fp => pts_nil
    case qf => exact fun pins C s H1 fp => pe_callTy (call_listK K rfl) (by rfl) G.kit.glist bt_list (pa_cons (pv 1) pa_nil)
    case qg => exact scRight.nd
    case qh => exact rfl
    case qi => exact rfl
    case qj => exact rfl
  case s10 => exact ps_for PassesOwn.never rfl (pi_list (pv 5)) (pg_name (i := 6) scRight.nd rfl (Or.inl rfl)) (pss_one (ps_expr (pe_bm PySem.F.plainAttrs_list PySem.F.slot_list_append PySem.F.type_list_append mt_append (pv 6) (pa_cons (pv 2) pa_nil))))
  case s11 => exact ps_expr (pe_bm PySem.F.plainAttrs_list PySem.F.slot_list_append PySem.F.type_list_append mt_append (pv 5) (pa_cons (pe_lst pa_nil) pa_nil))
  case s12 => exact ps_set (i := 14) scRight.nd rfl (Or.inl rfl) (pe_call GO hr rfl mO kO bO .nil pass0 (pa_cons (pv 0) (pa_cons (pv 4) pa_nil)))
  case s13 => exact ps_if (pw_or (pt_not (pt_val (pe_call GL hr2 (by rfl) mL kL bL .nil pass0 (pa_cons (pv 14) pa_nil)))) (pw_or1 (pt_cmpR (op_neLL hu) (pv 14)
      (pe_comp (g := gName 1) (own := [".0", "_law_part"]) (cl := []) (caps := []) (js := []) rfl (caps0 rfl rfl (by decide +kernel) (by decide +kernel)) (pi_list (pv 13))
        (fun pins C s H1 fp => pg_name (i := 1) nd_ownp rfl (Or.inl rfl))
        (fun pins C s H1 fp => pts_one (pt_cmpR op_eq (pe_op op_mod (pe_callB (call_lenK K rfl) (by rfl) G.glen PySem.boot_len (pa_cons (pv 1) pa_nil)) pe_int) pe_int (nomark _)))
        (fun pins C s H1 fp => pv 1)) (nomark _)))).pt (pss_one (ps_ret pe_bl)) pss_nil
  case s14 => exact ps_expr (pe_bm PySem.F.plainAttrs_list PySem.F.slot_list_append PySem.F.type_list_append mt_append (pv 4) (pa_cons pe_int pa_nil))
  case s15 => exact ps_ret (pe_and (pe_cmpR (op_eqLL hu) (pe_call GP hr3 rfl mP kP bP .nil pass0 (pa_cons (pv 0) (pa_cons (pv 3) pa_nil))) (pv 13) (nomark _)) (pe_one (pe_cmpR (op_eqLL hu) (pe_call GO hr rfl mO kO bO .nil pass0 (pa_cons (pv 0) (pa_cons (pv 3) pa_nil))) (pv 14) (nomark _))))
  rintro D σ H1 ⟨p, r, o, hd, f, m, rs, T, O, qs, H0, e6, e7, e8, e9, e10, e11, e12, e13, e14, rfl, B, R, hret⟩
  have m1 := B.W.m1
  have lqs := Paired.length R.hL
  have lps := G13.parts_len (m := m) (T := T) (O := O) (i := m)
  have hO : O.length ≤ 64 := by have := B.l; omega
  -- kept = [list(part) for part in found]
  refine ⟨_, rfl, f, rfl, ⟨_, SqL.of R.hf⟩, fun d hd0 => ?_⟩
  refine turns_list (K := K) (a := f) (xs := qs.map V.ref) (fun i ys σ H2 => ∃ (zs : List Addr) (e0 e1 : Option V), ys = zs.map V.ref ∧ σ = [e0, e1] ∧ Same H1 H2 ∧ H2 d = some (.lst ys) ∧ i ≤ qs.length ∧ LsH H2 zs ((G13.partsTo m T O m).take i) ∧ ∀ z ∈ zs, H1 z = none ∧ z ≠ d)
    ⟨[], none, none, rfl, rfl, Same.new hd0, upd_same, Nat.zero_le _, .nil, fun z hz => by cases hz⟩ ?_ ?_ ?_
  · rintro i ys σ H2 ⟨zs, e0, e1, rfl, rfl, s2, hd2, hi2, hz, _⟩
    refine ⟨hd2, small1000 ?_, SqL.of (s2 f _ R.hf)⟩
    have := Paired.length hz
    rw [List.length_take] at this
    rw [List.length_map]
    omega
  · rintro i x ys σ H2 hi ⟨zs, e0, e1, rfl, rfl, s2, hd2, hi2, hz, hzn⟩
    obtain ⟨y, t, rfl, er, et, hy⟩ := ref_at (LsH.same s2 R.hL) hi
    have hil : i < (qs.map V.ref).length := (List.getElem?_eq_some_iff.mp hi).1
    have hil' : i < qs.length := by rw [List.length_map] at hil; exact hil
    unfold gName
    dsimp only
    refine yes_of ?_
    refine ⟨_, rfl, y, _, rfl, .inl (SqL.of hy), fun l hl => ?_⟩
    have ndl : d ≠ l := ne_of_none hd2 hl
    refine ⟨by rw [upd_ne ndl]; exact hd2, Nxt.mk hil ⟨zs ++ [l], _, _, by rw [List.map_append]; rfl, rfl, fun b o e => ?_, upd_same, hil', ?_, fun z hz => ?_⟩⟩
    · rw [upd_ne (ne_of_none e hd0)]
      exact (s2.trans (Same.new hl)) b o e
    · rw [List.take_succ, et, Option.toList_some]
      refine paired_snoc (LsH.at' hz fun b hb o e => ?_) ?_
      · rw [upd_ne (hzn b hb).2, upd_ne (ne_of_none e hl)]; exact e
      · rw [upd_ne ndl.symm, upd_same]
    · rcases List.mem_append.mp hz with q | q
      · exact hzn z q
      · rw [List.mem_singleton] at q
        subst q
        exact ⟨s2.free hl, ndl.symm⟩
  rintro ys σ0 H2 ⟨zs, e0, e1, rfl, rfl, s2, hd2, _, hz, hzn⟩
  rw [List.length_map, lqs, List.take_length] at hz
  have R2 := R.same s2
  have ndq : ∀ q ∈ qs, ∃ t : List Int, H1 q = some (.lst (t.map V.int)) ∧ t.length < 64 := fun q hq => by
    obtain ⟨j, hj, ej⟩ := List.getElem_of_mem hq
    obtain ⟨t, et, ht⟩ := Sx.pair_at (i := j) (a := q) R.hL (by rw [← ej]; simp [hj])
    exact ⟨t, ht, (parts_props m1 t (List.mem_of_getElem? et)).2.2⟩
  have dnq : d ∉ qs := fun q => by
    obtain ⟨t, ht, _⟩ := ndq d q
    rw [hd0] at ht; cases ht
  have znq : ∀ z ∈ zs, z ∉ qs := fun z hz' q => by
    obtain ⟨t, ht, _⟩ := ndq z q
    rw [(hzn z hz').1] at ht; cases ht
  have fnq : f ∉ qs := fun q => (R.nq f q).2.1 rfl
  -- for part in found: part.append(many)
  refine ⟨_, rfl, f, rfl, ⟨_, SqL.of R2.hf⟩, for_list (K := K) (a := f) (xs := qs.map V.ref)
    (fun i σ H3 => ∃ e6, σ = [some (.ref p), some (.ref r), some (.int m), some (.ref o), some (.ref hd), some (.ref f), e6, e7, e8, e9, e10, e11, e12, some (.ref d), e14] ∧ (∀ b u, H2 b = some u → b ∉ qs → H3 b = some u) ∧ ∀ q ∈ qs, ∃ xs, H3 q = some (.lst xs) ∧ xs.length ≤ 64 + i)
    ⟨e6, rfl, fun b u e _ => e, fun q hq => ?_⟩ (fun i σ H3 _ ⟨_, _, k3, _⟩ => SqL.of (k3 f _ R2.hf fnq)) ?_ ?_⟩
  · obtain ⟨t, ht, hl⟩ := ndq q hq
    exact ⟨_, s2 q _ ht, by rw [List.length_map]; omega⟩
  · rintro i x σ H3 hi ⟨e6, rfl, k3, hq3⟩
    have hil : i < (qs.map V.ref).length := (List.getElem?_eq_some_iff.mp hi).1
    rw [List.length_map] at hil
    obtain ⟨y, rfl, hy⟩ : ∃ y, x = V.ref y ∧ y ∈ qs := by
      obtain ⟨y, hy, e⟩ := List.mem_map.mp (List.mem_of_getElem? hi)
      exact ⟨y, e.symm, hy⟩
    obtain ⟨xs, hx, lx⟩ := hq3 y hy
    refine ⟨_, rfl, .inl ⟨rfl, _, SqL.of hx⟩, _, rfl, y, _, _, rfl, rfl, hx, small1000 (by omega), ?_⟩
    refine ⟨_, rfl, fun b u e nb => ?_, fun q hq => ?_⟩
    · have nby : b ≠ y := fun z => nb (by rw [z]; exact hy)
      rw [upd_ne nby]; exact k3 b u e nb
    · by_cases z : q = y
      · subst z
        exact ⟨_, upd_same, by rw [List.length_append]; show xs.length + 1 ≤ _; omega⟩
      · obtain ⟨x0, hx0, l0⟩ := hq3 q hq
        exact ⟨x0, by rw [upd_ne z]; exact hx0, by omega⟩
  rintro σ H3 ⟨e6, rfl, k3, hq3⟩
  -- found.append([])
  have hf3 := k3 f _ R2.hf fnq
  refine ⟨_, rfl, .inl ⟨rfl, _, SqL.of hf3⟩, Nat.zero_le _, fun l hl => ?_⟩
  have nfl : f ≠ l := ne_of_none hf3 hl
  have hf4 : upd H3 l (.lst []) f = some (.lst (qs.map V.ref)) := by rw [upd_ne nfl]; exact hf3
  refine ⟨f, _, _, rfl, rfl, hf4, small1000 (by rw [List.length_map]; omega), ?_⟩
  have k5 : ∀ b u, H2 b = some u → b ∉ qs → b ≠ f → upd (upd H3 l (.lst [])) f (.lst (qs.map V.ref ++ [.ref l])) b = some u := fun b u e n1 n2 => by
    have e3 := k3 b u e n1
    rw [upd_ne n2, upd_ne (ne_of_none e3 hl)]; exact e3
  have s05 : Same H0 (upd (upd H3 l (.lst [])) f (.lst (qs.map V.ref ++ [.ref l]))) := fun b u e => k5 b u (R2.s b u e) (fun q => by rw [(R.nq b q).1] at e; cases e) (ne_of_none e R.ff)
  have hh5 := k5 hd _ R2.hh (fun q => (R.nq hd q).2.2 rfl) R.nf
  have hd5 := k5 d _ hd2 dnq (fun z => by rw [z, R.hf] at hd0; cases hd0)
  have hz5 : LsH (upd (upd H3 l (.lst [])) f (.lst (qs.map V.ref ++ [.ref l]))) zs (G13.partsTo m T O m) := LsH.at' hz fun b hb u e => k5 b u e (znq b hb) (fun z => by
    have := (hzn b hb).1
    rw [z, R.hf] at this; cases this)
  dsimp only
  show tSeq _ _ _ _ (upd (upd H3 l (.lst [])) f (.lst (qs.map V.ref ++ [.ref l])))
  generalize upd (upd H3 l (.lst [])) f (.lst (qs.map V.ref ++ [.ref l])) = H5 at s05 hh5 hd5 hz5 ⊢
  -- odd = odd_parts(web, handed)
  refine ⟨_, rfl, _, rfl, p, hd, m, T, O, rfl, B.W.same s05, SqL.of hh5, hO, fun l2 os H6 s6 fl2 fos hl2 hL2 => ?_⟩
  have odds : ∀ t ∈ oddsOf m T O, t ≠ [] ∧ t.Pairwise (· < ·) ∧ t.length < 64 := fun t ht => parts_props m1 t (List.mem_filter.mp ht).1
  -- if not listed(odd) or odd != ..
  refine ⟨_, rfl, l2, os, _, rfl, hl2, hL2, odds, fun H7 s7 => ⟨true, rfl, iteF ?_⟩⟩
  have s57 := s6.trans s7
  have lz := Paired.length hz5
  refine ⟨_, rfl, _, rfl, d, rfl, ⟨_, SqL.of (s57 d _ hd5)⟩, fun D2 hD2 => ?_⟩
  refine turns_odd (s57 d _ hd5) (LsH.same s57 hz5) (by omega) hD2 (fun e0 r t H2 Q hr q => ?_) fun ws H8 s8 hD8 hw _ => ?_
  · refine ⟨_, rfl, r, _, rfl, .inl (SqL.of hr), _, _, rfl, rfl, (by show (0 : Int) < 2; decide), rfl, _, rfl, ?_⟩
    rw [odd_dec]
    exact q
  have s78 := s7.trans s8
  refine ⟨l2, D2, os, ws, _, oddsOf m T O, rfl, rfl, SqL.of (s78 l2 _ hl2), SqL.of hD8, LsH.same s78 hL2, hw, _, rfl, ?_⟩
  refine iteNS rfl ?_
  have s58 := s57.trans s8
  have s08 := s05.trans s58
  have hh8 := s58 hd _ hh5
  have hd8 := s58 d _ hd5
  have hz8 := LsH.same s58 hz5
  have hl8 := s78 l2 _ hl2
  have hL8 := LsH.same s78 hL2
  -- handed.append(0)
  refine ⟨_, rfl, .inl ⟨rfl, _, SqL.of hh8⟩, hd, _, _, rfl, rfl, hh8, small1000 (by rw [List.length_map]; omega), ?_⟩
  have ndh : d ≠ hd := fun z => by rw [z, R.hh] at hd0; cases hd0
  have k9 : ∀ b u, H8 b = some u → b ≠ hd → upd H8 hd (.lst (O.map V.int ++ [.int 0])) b = some u := fun b u e n => by rw [upd_ne n]; exact e
  have s09 : Same H0 (upd H8 hd (.lst (O.map V.int ++ [.int 0]))) := fun b u e => k9 b u (s08 b u e) (ne_of_none e R.fh)
  have hd9 := k9 d _ hd8 ndh
  have hz9 : LsH (upd H8 hd (.lst (O.map V.int ++ [.int 0]))) zs (G13.partsTo m T O m) := LsH.at' hz8 fun b hb u e => k9 b u e fun z => by
    have := (hzn b hb).1
    rw [z, R.hh] at this; cases this
  have hl9 := k9 l2 _ hl8 (fun z => by rw [z, hh5] at fl2; cases fl2)
  have hL9 : LsH (upd H8 hd (.lst (O.map V.int ++ [.int 0]))) os (oddsOf m T O) := LsH.at' hL8 fun b hb u e => k9 b u e fun z => by
    have := fos b hb
    rw [z, hh5] at this; cases this
  dsimp only
  show tRet _ _ _ (upd H8 hd (.lst (O.map V.int ++ [.int 0])))
  generalize upd H8 hd (.lst (O.map V.int ++ [.int 0])) = H9 at s09 hd9 hz9 hl9 hL9 ⊢
  -- return parts(web, points) == kept and odd_parts(web, points) == odd
  refine ⟨_, rfl, _, rfl, p, o, m, T, O, rfl, B.W.same s09, s09.seq B.S, hO, fun l3 q3 H10 s10 _ _ hl3 hL3 => ?_⟩
  refine ⟨_, rfl, l3, d, q3, zs, _, _, rfl, rfl, SqL.of hl3, SqL.of (s10 d _ hd9), hL3, LsH.same s10 hz9, true, by rw [decide_eq_true rfl], iteT ?_⟩
  refine ⟨_, rfl, _, rfl, p, o, m, T, O, rfl, B.W.same (s09.trans s10), (s09.trans s10).seq B.S, hO, fun l4 q4 H11 s11 _ _ hl4 hL4 => ?_⟩
  have s911 := s10.trans s11
  refine ⟨_, rfl, l4, l2, q4, os, _, _, rfl, rfl, SqL.of hl4, SqL.of (s911 l2 _ hl9), hL4, LsH.same s911 hL9, ?_⟩
  rw [decide_eq_true rfl]
  exact hret _ (s09.trans s911)
end
end K13

/-! ### k13: right, its middle -/
namespace G13
theorem split_at {cs : List (List Int)} {k : Nat} {c : List Int} (h : cs[k]? = some c) : cs = cs.take k ++ c :: cs.drop (k + 1) := by
  obtain ⟨hk, e⟩ := List.getElem?_eq_some_iff.mp h
  rw [← e, ← List.drop_eq_getElem_cons hk, List.take_append_drop]
theorem fresh_at {cs : List (List Int)} {k j : Nat} {c : List Int} {y : Int} (hn : cs.flatten.Nodup) (h : cs[k]? = some c) (hy : c[j]? = some y) : y ∉ (cs.take k).flatten ∧ y ∉ c.take j := by
  rw [split_at h, List.flatten_append, List.flatten_cons] at hn
  obtain ⟨_, h2, h3⟩ := List.nodup_append.mp hn
  obtain ⟨h4, _, _⟩ := List.nodup_append.mp h2
  have ym : y ∈ c := List.mem_of_getElem? hy
  refine ⟨fun q => h3 y q y (List.mem_append_left _ ym) rfl, fun q => ?_⟩
  obtain ⟨hj, e⟩ := List.getElem?_eq_some_iff.mp hy
  have sp : c = c.take j ++ y :: c.drop (j + 1) := by rw [← e, ← List.drop_eq_getElem_cons hj, List.take_append_drop]
  rw [sp] at h4
  exact (List.nodup_append.mp h4).2.2 y q y (.head _) rfl
/-- the points that are not out -/
def notOut (m : Int) (O : List Int) : List Int := (pts m).filter fun y => !decide (y ∈ O)
theorem notOut_lt {m : Int} {O : List Int} : (notOut m O).Pairwise (· < ·) := pts_lt.sublist List.filter_sublist
theorem notOut_len {m : Int} {O : List Int} : (notOut m O).length ≤ m.toNat := by
  have := (List.filter_sublist (l := pts m) (p := fun y => !decide (y ∈ O))).length_le
  rw [pts_len] at this
  exact this
theorem flat_is {m : Int} {T : List Tri} {O : List Int} {t : List Int} (ht : t.Perm (partsTo m T O m).flatten) (hs : t.Pairwise (· ≤ ·)) : t = notOut m O := by
  refine sorted_is ht hs flat_nodup notOut_lt fun y => ?_
  rw [flat_mem]
  unfold notOut
  rw [List.mem_filter, mem_pts]
  simp
theorem pts_take {m : Int} {i : Nat} (h : i < m.toNat) : ((pts m).take (i + 1)) = (pts m).take i ++ [(i : Int)] := by
  unfold pts
  rw [List.take_succ, List.getElem?_map, List.getElem?_range h]
  rfl
end G13
namespace K13
open PySem L2 PyProof.Rows
/-- where each point stands, as the dict has it -/
def plcV (l : List (Int × Nat)) : List (Key × V) := l.map fun q => (Sum.inl q.1, V.int (q.2 : Int))
theorem plcV_none : ∀ {l : List (Int × Nat)} {y : Int}, y ∉ l.map (·.1) → valV (plcV l) (Sum.inl y : Key) = none
  | [], _, _ => rfl
  | q :: r, y, h => by
    rw [List.map_cons, List.mem_cons, not_or] at h
    show valV ((Sum.inl q.1, V.int (q.2 : Int)) :: plcV r) _ = none
    rw [valV_neg (fun e => h.1 (Sum.inl.inj e).symm)]
    exact plcV_none h.2
theorem plcV_some : ∀ {l : List (Int × Nat)} {y : Int} {v : V}, valV (plcV l) (Sum.inl y : Key) = some v → ∃ j : Nat, v = .int j ∧ (y, j) ∈ l
  | [], _, _, h => by cases h
  | q :: r, y, v, h => by
    by_cases e : q.1 = y
    · rw [show valV (plcV (q :: r)) (Sum.inl y : Key) = some (V.int (q.2 : Int)) from valV_pos (congrArg Sum.inl e)] at h
      exact ⟨q.2, (Option.some.inj h).symm, by rw [← e]; exact .head _⟩
    · rw [show valV (plcV (q :: r)) (Sum.inl y : Key) = valV (plcV r) (Sum.inl y) from valV_neg (fun z => e (Sum.inl.inj z))] at h
      obtain ⟨j, h1, h2⟩ := plcV_some h
      exact ⟨j, h1, .tail _ h2⟩
theorem plcV_keys (l : List (Int × Nat)) : (plcV l).map (·.1) = (l.map (·.1)).map Sum.inl := by
  unfold plcV
  rw [List.map_map, List.map_map]
  rfl
theorem plcV_put {l : List (Int × Nat)} {y : Int} {k : Nat} (h : y ∉ l.map (·.1)) : putK (plcV l) (Sum.inl y) (V.int (k : Int)) = plcV (l ++ [(y, k)]) := by
  rw [putK_new _ (plcV_none h)]
  unfold plcV
  rw [List.map_append]
  rfl
section
variable {P : Program} {w : World} {K : PySem.W.Frag} {mg : Str → Option Value} {base : Heap} {C : Addr}
/-- the first points of lists -/
theorem turns_heads {K : PySem.W.Frag} {f D : Addr} {qs : List Addr} {ts : List (List Int)} {Qd : Hp → Prop} {H1 : Hp} (hf : H1 f = some (.lst (qs.map V.ref))) (hL : LsH H1 qs ts) (hn : ∀ t ∈ ts, t ≠ []) (h9 : qs.length ≤ 900) (hD : H1 D = none)
    (q : ∀ H', Same H1 H' → H' D = some (.lst ((ts.map fun c => c.headD 0).map V.int)) → Qd H') : tTurns (Itl K f) (gName 1) tYes (tOp (rIxL K) (tVar 1) (tC (.int 0))) [none, none] D Qd H1 := by
  have lqs := Paired.length hL
  refine turns_list (K := K) (a := f) (xs := qs.map V.ref) (fun i ys σ H2 => ∃ (e0 e1 : Option V), ys = ((ts.take i).map fun c => c.headD 0).map V.int ∧ i ≤ qs.length ∧ σ = [e0, e1] ∧ Same H1 H2 ∧ H2 D = some (.lst ys)) ⟨none, none, rfl, Nat.zero_le _, rfl, Same.new hD, upd_same⟩ ?_ ?_ ?_
  · rintro i ys σ H2 ⟨e0, e1, rfl, li, rfl, s2, hD2⟩
    refine ⟨hD2, small1000 ?_, SqL.of (s2 f _ hf)⟩
    rw [List.length_map, List.length_map, List.length_take]; omega
  · rintro i x ys σ H2 hi ⟨e0, e1, rfl, li, rfl, s2, hD2⟩
    obtain ⟨r, t, rfl, er, et, hr⟩ := ref_at (LsH.same s2 hL) hi
    have hil : i < (qs.map V.ref).length := (List.getElem?_eq_some_iff.mp hi).1
    have hil' : i < qs.length := by rw [List.length_map] at hil; exact hil
    have tn := hn t (List.mem_of_getElem? et)
    obtain ⟨h, u, rfl⟩ : ∃ h u, t = h :: u := by
      cases t with
      | nil => exact absurd rfl tn
      | cons h u => exact ⟨h, u, rfl⟩
    unfold gName
    dsimp only
    refine yes_of ?_
    refine ⟨_, rfl, r, _, 0, V.int h, rfl, rfl, SqL.of hr, atI_nat (j := 0) rfl, hD2, Nxt.mk hil ⟨_, _, ?_, hil', rfl, fun b o e => ?_, upd_same⟩⟩
    · rw [List.take_succ, et, Option.toList_some, List.map_append, List.map_append]; rfl
    · rw [upd_ne (ne_of_none e hD)]; exact s2 b o e
  · rintro ys σ H2 ⟨e0, e1, rfl, li, rfl, s2, hD2⟩
    rw [List.length_map, lqs, List.take_length] at hD2
    exact q H2 s2 hD2
/-! the captured names -/
def compH : Scope := { kind := .function, names := [(Str.ofString ".0", .local), (Str.ofString "_law_part", .local), (Str.ofString "_law_hangs", .globalImplicit), (Str.ofString "_law_rows_here", .free)], isGenerator := false, isCoroutine := false, more := [] }
def compP : Scope := { kind := .function, names := [(Str.ofString ".0", .local), (Str.ofString "_law_a", .local), (Str.ofString "_law_points", .free)], isGenerator := false, isCoroutine := false, more := [] }
theorem nd_ownH : ([".0", "_law_part", "_law_rows_here"] : List Str).Nodup := by decide +kernel
theorem nd_ownA : ([".0", "_law_a", "_law_points"] : List Str).Nodup := by decide +kernel
section
variable {f : Addr} {cdv : Value} {A : Around} {outer : List Env} {s : Shared} {H : Hp} {E : XK}
theorem cellsR : (XR P w K mg base f cdv A outer s H E).env.cells = [(Str.ofString "_law_points", s.heap.objs.size + 1 + 1), (Str.ofString "_law_rows_here", s.heap.objs.size + 1)] := by rfl
theorem capsH : Caps (XR P w K mg base f cdv A outer s H E) compH [(Str.ofString "_law_rows_here", s.heap.objs.size + 1)] [".0", "_law_part"] ["_law_rows_here"] [1] := by
  have e2 : (relabel compH (XR P w K mg base f cdv A outer s H E).env).names = [(Str.ofString ".0", .local), (Str.ofString "_law_part", .local), (Str.ofString "_law_hangs", .globalImplicit), (Str.ofString "_law_rows_here", .cell)] := by rfl
  refine ⟨rfl, fun x c h => ?_, rfl, by decide +kernel, by decide +kernel, fun x hx => ?_, rfl, fun i x e => ?_⟩
  · have hx : x = Str.ofString "_law_rows_here" ∧ c = s.heap.objs.size + 1 := by
      have := PySem.mem_of_lookup h
      simpa using this
    obtain ⟨rfl, rfl⟩ := hx
    rw [cellsR]; rfl
  · rw [e2] at hx
    have hx : x = Str.ofString "_law_rows_here" := by
      rcases hx with hx | hx
      all_goals
        have := PySem.mem_of_lookup hx
        simpa using this
    subst hx
    exact ⟨_, rfl⟩
  · match i, e with
    | 0, e =>
      cases (Option.some.inj e)
      exact ⟨1, rfl, rfl, rfl, rfl, by rw [e2]; rfl⟩
    | n + 1, e => cases e
theorem capsP : Caps (XR P w K mg base f cdv A outer s H E) compP [(Str.ofString "_law_points", s.heap.objs.size + 1 + 1)] [".0", "_law_a"] ["_law_points"] [3] := by
  have e2 : (relabel compP (XR P w K mg base f cdv A outer s H E).env).names = [(Str.ofString ".0", .local), (Str.ofString "_law_a", .local), (Str.ofString "_law_points", .cell)] := by rfl
  refine ⟨rfl, fun x c h => ?_, rfl, by decide +kernel, by decide +kernel, fun x hx => ?_, rfl, fun i x e => ?_⟩
  · have hx : x = Str.ofString "_law_points" ∧ c = s.heap.objs.size + 1 + 1 := by
      have := PySem.mem_of_lookup h
      simpa using this
    obtain ⟨rfl, rfl⟩ := hx
    rw [cellsR]; rfl
  · rw [e2] at hx
    have hx : x = Str.ofString "_law_points" := by
      rcases hx with hx | hx
      all_goals
        have := PySem.mem_of_lookup hx
        simpa using this
    subst hx
    exact ⟨_, rfl⟩
  · match i, e with
    | 0, e =>
      cases (Option.some.inj e)
      exact ⟨3, rfl, rfl, rfl, rfl, by rw [e2]; rfl⟩
    | n + 1, e => cases e
theorem r8 (G : CallsR P w K mg base C) (hr : Room 4 (A.deeper (envOfC "_law_right" (defScope sRight) s.heap.objs.size f cdv))) :
    PSs (XR P w K mg base f cdv A outer s H E) ((defBody sRight).drop 8) (tR C K) := by
  obtain ⟨fH, fdH, mH, kH, GH, bH⟩ := G.han
  have hr1 : Room 1 (XR P w K mg base f cdv A outer s H E).A := hr.mono (by decide)
  refine' PSs.imp (t' := tR C K) (pss_cons ?s8 (r9 G hr)) ?i
  case s8 => exact ps_if (pt_not (pt_val (pe_callB (call_allB rfl) (by rfl) G.gall bt_all (pa_cons (pe_comp (g := gName 1) (own := [".0", "_law_part"]) (caps := ["_law_rows_here"]) (js := [1]) rfl capsH (pi_list (pv 5))
      (fun pins C s H1 fp => pg_name (i := 1) nd_ownH rfl (Or.inl rfl) (Or.inr rfl)) (fun pins C s H1 fp => pts_nil)
      (fun pins C s H1 fp => pe_call GH hr1 rfl mH kH bH .nil pass0 (pa_cons (pv 1) (pa_cons (pv 2) pa_nil)))) pa_nil)))) (pss_one (ps_ret pe_bl)) pss_nil
  rintro D σ H1 ⟨p, r, o, hd, f, m, rs, T, O, qs, H0, e6, e7, e8, e9, e10, e11, e12, e13, e14, rfl, B, R, hret⟩
  have m1 := B.W.m1
  have g := Mt.scan_points B.W.ok
  have lqs := Paired.length R.hL
  have lps := G13.parts_len (m := m) (T := T) (O := O) (i := m)
  refine ⟨_, rfl, f, rfl, ⟨_, SqL.of R.hf⟩, fun D2 hD2 => ?_⟩
  refine turns_list (K := K) (a := f) (xs := qs.map V.ref) (fun i ys σ H2 => ∃ (e0 e1 : Option V), ys = (List.replicate i true).map V.bl ∧ i ≤ qs.length ∧ σ = [e0, e1, some (.ref r)] ∧ Same H1 H2 ∧ H2 D2 = some (.lst ys)) ⟨none, none, rfl, Nat.zero_le _, rfl, Same.new hD2, upd_same⟩ ?_ ?_ ?_
  · rintro i ys σ H2 ⟨e0, e1, rfl, li, rfl, s2, h2⟩
    refine ⟨h2, small1000 ?_, SqL.of (s2 f _ R.hf)⟩
    rw [List.length_map, List.length_replicate]; omega
  · rintro i x ys σ H2 hi ⟨e0, e1, rfl, li, rfl, s2, h2⟩
    obtain ⟨y, t, rfl, er, et, hy⟩ := ref_at (LsH.same s2 R.hL) hi
    have hil : i < (qs.map V.ref).length := (List.getElem?_eq_some_iff.mp hi).1
    have hil' : i < qs.length := by rw [List.length_map] at hil; exact hil
    have tm := List.mem_of_getElem? et
    obtain ⟨tn, tl, t64⟩ := parts_props m1 t tm
    obtain ⟨x, hx, ex⟩ := List.mem_map.mp tm
    obtain ⟨⟨x0, x1⟩, fx⟩ := G13.firsts_mem.mp hx
    obtain ⟨h, u, eh⟩ : ∃ h u, t = h :: u := by
      cases t with
      | nil => exact absurd rfl tn
      | cons h u => exact ⟨h, u, rfl⟩
    have hg : G13.Hangs T t h := by
      have := G13.hangs_of (O := O) g x0 x1 fx (h := h) (by rw [ex, eh]; exact .head _)
      rw [ex] at this
      exact this
    have t24 : t.length ≤ 24 := by
      have := G13.comp_len (m := m) (T := T) (O := O) (x := x)
      rw [ex] at this
      omega
    unfold gName
    dsimp only
    refine yes_of ?_
    refine ⟨_, rfl, _, rfl, y, r, t, rs, T, h, rfl, hy, B.R.same (R.s.trans s2), by rw [eh]; rfl, tl, t24, hg, fun H3 s3 => ?_⟩
    refine ⟨s3 D2 _ h2, Nxt.mk hil ⟨_, _, ?_, hil', rfl, fun b o e => ?_, ?_⟩⟩
    · rw [List.replicate_succ', List.map_append]; rfl
    · rw [upd_ne (ne_of_none e hD2)]; exact s3 b o (s2 b o e)
    · exact upd_same
  · rintro ys σ H2 ⟨e0, e1, rfl, li, rfl, s2, h2⟩
    refine ⟨D2, _, rfl, SqL.of h2, ⟨true, by rw [all_true], iteF ?_⟩⟩
    exact ⟨p, r, o, hd, f, m, rs, T, O, qs, H0, _, _, _, _, _, _, _, _, _, rfl, B, R.same s2, hret⟩
theorem r4 (G : CallsR P w K mg base C) (hr : Room 4 (A.deeper (envOfC "_law_right" (defScope sRight) s.heap.objs.size f cdv))) :
    PSs (XR P w K mg base f cdv A outer s H E) ((defBody sRight).drop 4) (tR C K) := by
  have hu := hu_of hr
  have hu0 : (XR P w K mg base f cdv A outer s H E).A.units < cLine := Nat.lt_of_succ_lt hu
  refine' PSs.imp (t' := tR C K) (pss_cons ?s4 (pss_cons ?s5 (pss_cons ?s6 (pss_cons ?s7 (r8 G hr))))) ?i
  case s4 => exact ps_set (i := 7) scRight.nd rfl (Or.inl rfl) pe_dnewK
  case s5 =>
    refine' ps_for ?qa ?qb ?qc ?qd ?qe
    case qa => exact PassesOwn.never
    case qb => exact rfl
    case qc => exact pi_range1 rfl G.grange (pa_cons (pe_callB call_len_seq (by rfl) G.glen PySem.boot_len (pa_cons (pv 5) pa_nil)) pa_nil)
    case qd => exact pg_name (i := 8) scRight.nd rfl (Or.inl rfl)
    case qe => exact pss_one (ps_for PassesOwn.never rfl (pi_list (pe_ix ix_list (pv 5) (pv 8) (fun _ _ => rfl))) (pg_name (i := 9) scRight.nd rfl (Or.inl rfl))
        (pss_cons (ps_if (pt_cmp (pc_din hu (pv 9) (pv 7))) (pss_one (ps_ret pe_bl)) pss_nil) (pss_one (ps_dput hu (pv 7) (pv 9) (pv 8) rfl))))
  case s6 => exact ps_if (pt_cmpR (op_neI hu0) (pe_callB (call_sortedDI rfl) (by rfl) G.web.srt boot_sorted (pa_cons (pv 7) pa_nil))
      (pe_comp (g := gName 1) (own := [".0", "_law_a"]) (caps := ["_law_points"]) (js := [3]) rfl capsP (pi_range1 (by rfl) G.grange (pa_cons (pv 2) pa_nil))
        (fun pins C s H1 fp => pg_name (i := 1) nd_ownA rfl (Or.inl rfl) (Or.inr rfl)) (fun pins C s H1 fp => pts_one (pt_cmpR (op_notInK K rfl) (pv 1) (pv 2) (by with_unfolding_all rfl))) (fun pins C s H1 fp => pv 1)) (nomark _)) (pss_one (ps_ret pe_bl)) pss_nil
  case s7 =>
    refine' ps_for ?qa ?qb ?qc ?qd ?qe
    case qa => exact PassesOwn.never
    case qb => exact rfl
    case qc => exact pi_list (pv 1)
    case qd => exact pg_tup rfl (pgs_cons (pg_name (i := 10) scRight.nd rfl (Or.inl rfl)) (pgs_cons (pg_name (i := 11) scRight.nd rfl (Or.inl rfl)) (pgs_cons (pg_name (i := 12) scRight.nd rfl (Or.inl rfl)) pgs_nil)))
    case qe => exact pss_one (ps_if (pw_and (pt_cmp (pc_din hu (pv 10) (pv 7))) (pw_and (pt_cmp (pc_din hu (pv 11) (pv 7))) (pw_and1 (pt_cmpR op_ne (pe_dget hu (pv 7) (pv 10) (fun _ _ => rfl)) (pe_dget hu (pv 7) (pv 11) (fun _ _ => rfl)) (nomark _))))).pt (pss_one (ps_ret pe_bl)) pss_nil)
  rintro D σ H1 ⟨p, r, o, hd, f, m, rs, T, O, qs, H0, e6, e7, e8, e9, e10, e11, e12, e13, e14, rfl, B, R, hret⟩
  have m0 := B.W.m0
  have m1 := B.W.m1
  have lqs := Paired.length R.hL
  have lps := G13.parts_len (m := m) (T := T) (O := O) (i := m)
  have nd := G13.flat_nodup (m := m) (T := T) (O := O)
  have lfl : (G13.partsTo m T O m).flatten.length ≤ m.toNat := G13.len_pts nd fun y hy => (G13.flat_mem.mp hy).1
  -- place = {}
  intro dp hdp
  have s1 : Same H1 (upd H1 dp (.dK [])) := Same.new hdp
  -- for k in range(len(found))
  refine ⟨_, rfl, f, _, rfl, .inl (SqL.of (s1 f _ R.hf)), _, rfl, by omega, by rw [List.length_map]; omega, for_range (lo := 0) (n := (((qs.map V.ref).length : Nat) : Int).toNat)
    (fun k σ H2 => ∃ e8 e9, σ = [some (.ref p), some (.ref r), some (.int m), some (.ref o), some (.ref hd), some (.ref f), e6, some (.ref dp), e8, e9, e10, e11, e12, e13, e14] ∧ Same H1 H2 ∧ H2 dp = some (.dK (plcV (G13.plc 0 ((G13.partsTo m T O m).take k)))))
    ⟨e8, e9, rfl, s1, upd_same⟩ ?_ ?_⟩
  · rintro k σ H2 hk ⟨e8, e9, rfl, s2, hd2⟩
    rw [show (0 : Int) + (k : Int) = (k : Int) by omega]
    have hk' : k < qs.length := by rw [List.length_map, Int.toNat_natCast] at hk; exact hk
    obtain ⟨q, c, ec, er, et, hq⟩ := ref_at (LsH.same s2 R.hL) (i := k) (x := .ref qs[k]) (by simp [hk'])
    cases ec
    have hat := atI_nat (xs := qs.map V.ref) (j := k) (v := .ref qs[k]) (by simp [hk'])
    have sp := congrArg (fun l => l.flatten.length) (G13.split_at et)
    simp only [List.flatten_append, List.flatten_cons, List.length_append] at sp
    refine ⟨_, rfl, _, rfl, f, _, _, _, rfl, rfl, SqL.of (s2 f _ R.hf), hat, _, rfl, ⟨_, SqL.of hq⟩, for_list (K := K) (a := qs[k]) (xs := c.map V.int)
      (fun j σ H3 => ∃ e9, σ = [some (.ref p), some (.ref r), some (.int m), some (.ref o), some (.ref hd), some (.ref f), e6, some (.ref dp), some (.int k), e9, e10, e11, e12, e13, e14] ∧ Same H1 H3 ∧ H3 qs[k] = some (.lst (c.map V.int)) ∧ H3 dp = some (.dK (plcV (G13.plc 0 ((G13.partsTo m T O m).take k) ++ (c.take j).map fun y => (y, k)))))
      ⟨e9, rfl, s2, hq, by rw [List.take_zero, List.map_nil, List.append_nil]; exact hd2⟩ (fun j σ H3 _ ⟨_, _, _, h, _⟩ => SqL.of h) ?_ ?_⟩
    · rintro j x σ H3 hj ⟨e9, rfl, s3, hq3, hd3⟩
      obtain ⟨y, rfl, ey⟩ := map_int_at hj
      have hjl : j < c.length := (List.getElem?_eq_some_iff.mp ey).1
      obtain ⟨n1, n2⟩ := G13.fresh_at nd et ey
      have keys : (G13.plc 0 ((G13.partsTo m T O m).take k) ++ (c.take j).map fun y => (y, k)).map (·.1) = ((G13.partsTo m T O m).take k).flatten ++ c.take j := by
        rw [List.map_append, G13.plc_keys, List.map_map]
        congr 1
        conv => rhs; rw [← List.map_id (c.take j)]
        rfl
      have ny : y ∉ (G13.plc 0 ((G13.partsTo m T O m).take k) ++ (c.take j).map fun y => (y, k)).map (·.1) := by
        rw [keys, List.mem_append, not_or]
        exact ⟨n1, n2⟩
      have ll := congrArg List.length keys
      rw [List.length_map, List.length_append (as := ((G13.partsTo m T O m).take k).flatten), List.length_take] at ll
      refine ⟨_, rfl, _, rfl, dp, _, rfl, DGet.k (k := Sum.inl y) hd3, _, rfl, ?_⟩
      rw [plcV_none ny]
      refine iteF ?_
      refine ⟨_, rfl, _, rfl, _, rfl, dp, _, rfl, DPut.k (k := Sum.inl y) hd3 (small1000 ?_), ?_⟩
      · unfold plcV
        rw [List.length_map, ll]
        omega
      · refine ⟨_, rfl, fun b u e => ?_, ?_, ?_⟩
        · rw [upd_ne (ne_of_none e hdp)]; exact s3 b u e
        · rw [upd_ne (ne_of hq3 hd3 (by intro z; cases z))]; exact hq3
        · rw [upd_same, plcV_put ny, List.take_succ, ey, Option.toList_some, List.map_append, List.append_assoc]
          rfl
    · rintro σ H3 ⟨e9, rfl, s3, hq3, hd3⟩
      rw [List.length_map, List.take_length] at hd3
      refine ⟨_, _, rfl, s3, ?_⟩
      rw [List.take_succ, et, Option.toList_some, G13.plc_snoc, List.length_take]
      rw [show min k (G13.partsTo m T O m).length = k by omega, Nat.zero_add]
      exact hd3
  rintro σ H2 ⟨e8, e9, rfl, s2, hd2⟩
  rw [List.length_map, Int.toNat_natCast, lqs, List.take_length] at hd2
  -- if sorted(place) != ..
  refine ⟨_, rfl, dp, _, (G13.partsTo m T O m).flatten, rfl, hd2, by rw [plcV_keys, G13.plc_keys], by omega, fun t' q hp' hs' hq => ?_⟩
  have et := G13.flat_is hp' hs'
  subst et
  have s3 : Same H2 (upd H2 q (.lst ((G13.notOut m O).map V.int))) := Same.new hq
  have hq3 : upd H2 q (.lst ((G13.notOut m O).map V.int)) q = some (.lst ((G13.notOut m O).map V.int)) := upd_same
  have So : SqL K (upd H2 q (.lst ((G13.notOut m O).map V.int))) o (O.map V.int) := (R.s.trans (s2.trans s3)).seq B.S
  refine ⟨_, rfl, m, rfl, by omega, by omega, fun D2 hD2 => ?_⟩
  replace hD2 : upd H2 q (.lst ((G13.notOut m O).map V.int)) D2 = none := hD2
  refine turns_range (n := m.toNat) (fun i ys σ H4 => ∃ (e0 e1 : Option V), ys = (((G13.pts m).take i).filter fun y => !decide (y ∈ O)).map V.int ∧ i ≤ m.toNat ∧ σ = [e0, e1, some (.ref o)] ∧ Same (upd H2 q (.lst ((G13.notOut m O).map V.int))) H4 ∧ H4 D2 = some (.lst ys)) ⟨none, none, rfl, Nat.zero_le _, rfl, Same.new hD2, upd_same⟩ ?_ ?_ ?_
  · rintro i ys σ H4 ⟨e0, e1, rfl, li, rfl, s4, h4⟩
    refine ⟨h4, small1000 ?_⟩
    rw [List.length_map]
    have := (List.filter_sublist (l := (G13.pts m).take i) (p := fun y => !decide (y ∈ O))).length_le
    rw [List.length_take] at this
    omega
  · rintro i ys σ H4 hi ⟨e0, e1, rfl, li, rfl, s4, h4⟩
    rw [show (0 : Int) + (i : Int) = (i : Int) by omega]
    unfold gName
    dsimp only
    refine ⟨_, rfl, _, rfl, o, _, rfl, .inl (s4.seq So), rfl, flat_ints _, _, rfl, ?_⟩
    rw [if_pos rfl, inV_int]
    refine ite2 (fun c => ?_) (fun c => ?_)
    · refine ⟨_, rfl, h4, Nxt.mk hi ⟨_, _, ?_, hi, rfl, fun b u e => ?_, upd_same⟩⟩
      · rw [G13.pts_take hi, List.filter_append, List.filter_cons, if_pos c, List.filter_nil, List.map_append]; rfl
      · rw [upd_ne (ne_of_none e hD2)]; exact s4 b u e
    · refine Nxt.mk hi ⟨_, _, ?_, hi, rfl, s4, h4⟩
      rw [G13.pts_take hi, List.filter_append, List.filter_cons, if_neg c, List.filter_nil, List.append_nil]
  rintro ys σ0 H4 ⟨e0, e1, rfl, li, rfl, s4, h4⟩
  have h4 : H4 D2 = some (.lst ((G13.notOut m O).map V.int)) := by
    rw [h4]
    unfold G13.notOut
    rw [List.take_of_length_le (by rw [G13.pts_len]; exact Nat.le_refl _)]
  refine ⟨q, D2, _, G13.notOut m O, rfl, rfl, SqL.of (s4 q _ hq3), SqL.of h4, _, rfl, ?_⟩
  refine iteNS rfl ?_
  have s14 := s2.trans (s3.trans s4)
  have hd4 := (s3.trans s4) dp _ hd2
  have R4 := R.same s14
  have R0 := B.R.same R4.s
  -- for a, b, heavy in rows
  refine ⟨_, rfl, r, rfl, ⟨_, R0.ls⟩, for_list (K := K) (a := r) (xs := rs.map V.ref)
    (fun i σ H5 => ∃ e10 e11 e12, σ = [some (.ref p), some (.ref r), some (.int m), some (.ref o), some (.ref hd), some (.ref f), e6, some (.ref dp), e8, e9, e10, e11, e12, e13, e14] ∧ H5 = H4) ⟨_, _, _, rfl, rfl⟩ (fun i σ H5 _ ⟨_, _, _, _, e⟩ => by rw [e]; exact R0.ls) ?_ ?_⟩
  · rintro i x σ H5 hi ⟨e10, e11, e12, rfl, rfl⟩
    obtain ⟨y, t, rfl, et, hy⟩ := R0.at_ hi
    refine ⟨y, _, rfl, SqT.of hy, rfl, _, _, rfl, _, _, rfl, _, _, rfl, rfl, ?_⟩
    refine ⟨_, rfl, _, rfl, dp, _, rfl, DGet.k (k := Sum.inl t.1) hd4, _, rfl, ?_⟩
    cases ea : valV (plcV (G13.plc 0 (G13.partsTo m T O m))) (Sum.inl t.1 : Key) with
    | none => exact iteF (iteF ⟨_, _, _, rfl, rfl⟩)
    | some va =>
      refine iteT ?_
      refine ⟨_, rfl, _, rfl, dp, _, rfl, DGet.k (k := Sum.inl t.2.1) hd4, _, rfl, ?_⟩
      cases eb : valV (plcV (G13.plc 0 (G13.partsTo m T O m))) (Sum.inl t.2.1 : Key) with
      | none => exact iteF (iteF ⟨_, _, _, rfl, rfl⟩)
      | some vb =>
        refine iteT ?_
        obtain ⟨ja, rfl, ma⟩ := plcV_some ea
        obtain ⟨jb, rfl, mb⟩ := plcV_some eb
        obtain ⟨_, ca, ha1, ha2⟩ := G13.plc_in ma
        obtain ⟨_, cb, hb1, hb2⟩ := G13.plc_in mb
        have ej : ja = jb := by
          have := G13.tie_one ha1 hb1 ha2 hb2 ⟨t, List.mem_of_getElem? et, .inl ⟨rfl, rfl⟩⟩
          omega
        subst ej
        have ga : DGet H5 dp (V.int t.1) (some (V.int ja)) := by
          have := DGet.k (k := Sum.inl t.1) hd4
          rw [ea] at this
          exact this
        have gb : DGet H5 dp (V.int t.2.1) (some (V.int ja)) := by
          have := DGet.k (k := Sum.inl t.2.1) hd4
          rw [eb] at this
          exact this
        refine ⟨_, rfl, _, rfl, dp, _, rfl, ga, _, rfl, _, rfl, dp, _, rfl, gb, rfl, _, rfl, ?_⟩
        exact iteNS rfl ⟨_, _, _, rfl, rfl⟩
  · rintro σ H5 ⟨e10, e11, e12, rfl, rfl⟩
    exact ⟨p, r, o, hd, f, m, rs, T, O, qs, H0, _, _, _, _, _, _, _, _, _, rfl, B, R4, hret⟩
end
end
end K13

/-! ### k13: right, the law, its head -/
namespace K13
open PySem L2 PyProof.Rows
theorem passNo {P : Program} {w : World} {X : Cx} : Passes (CXx P w) X E0 := fun _ _ _ _ _ _ _ h => by
  obtain ⟨ea, cls, a0, B, H', _, _, _, _, _, _, _, _, he⟩ := h
  exact False.elim he
section
variable {P : Program} {w : World} {K : PySem.W.Frag} {mg : Str → Option Value} {base : Heap} {C : Addr}
def spRight (C : Addr) (K : PySem.W.Frag) : Sp := fun vs H Q _ => ∃ (p r o : Addr) (m : Int) (rs : List Addr) (T : List Mt.Tri) (O : List Int), vs = [.ref p, .ref r, .int m, .ref o] ∧ Bas C K H p r o m rs T O ∧ ∀ H', Same H H' → Q (.bl true) H'
theorem ok_right {f : Addr} {fd : FuncData} (F : Fun K "_law_right" "_law_right" sRight f fd) (G : CallsR P w K mg base C) : FnOk P w K mg base CX0 5 f fd ["_law_web", "_law_rows_here", "_law_many", "_law_points"] (spRight C K) := by
  obtain ⟨fP, fdP, mP, kP, GP, bP⟩ := G.par
  obtain ⟨fL, fdL, mL, kL, GL, bL⟩ := G.lis
  refine F.ok scRight (fun vs H Q E h => ?_) (fun cdv A outer s H vs Q E hr h => ?_)
  · obtain ⟨p, r, o, m, rs, T, O, rfl, _⟩ := h
    rfl
  · obtain ⟨p, r, o, m, rs, T, O, rfl, B, hQ⟩ := h
    have hu := hu_of hr
    have hu0 : (XR P w K mg base f cdv A outer s H E).A.units < cLine := Nat.lt_of_succ_lt hu
    have hr2 : Room 2 (XR P w K mg base f cdv A outer s H E).A := hr.mono (by decide)
    have hr3 : Room 3 (XR P w K mg base f cdv A outer s H E).A := hr.mono (by decide)
    refine' ⟨_, pss_cons ?s0 (pss_cons ?s1 (pss_cons ?s2 (pss_cons ?s3 (r4 G hr)))), ?_⟩
    case s0 => exact ps_set (i := 4) scRight.nd rfl (Or.inl rfl) (pe_callTy call_list_of (by rfl) G.kit.glist bt_list (pa_cons (pv 3) pa_nil))
    case s1 => exact ps_set (i := 5) scRight.nd rfl (Or.inl rfl) (pe_call GP hr3 rfl mP kP bP .nil pass0 (pa_cons (pv 0) (pa_cons (pv 4) pa_nil)))
    case s2 => exact ps_if (pw_or (pt_not (pt_val (pe_call GL hr2 (by rfl) mL kL bL .nil pass0 (pa_cons (pv 5) pa_nil)))) (pw_or1 (pt_cmpR (op_neI hu0) (pv 4) (pv 3) (nomark _)))).pt (pss_one (ps_ret pe_bl)) pss_nil
    case s3 => exact ps_if (pt_cmpR (op_neI hu0)
        (pe_comp (g := gName 1) (own := [".0", "_law_part"]) (cl := []) (caps := []) (js := []) rfl (caps0 rfl rfl (by decide +kernel) (by decide +kernel)) (pi_list (pv 5))
          (fun pins C s H1 fp => pg_name (i := 1) nd_ownp rfl (Or.inl rfl)) (fun pins C s H1 fp => pts_nil) (fun pins C s H1 fp => pe_ix (ix_listK K rfl) (pv 1) pe_int (fun _ _ => rfl)))
        (pe_callB call_sortedI (by rfl) G.web.srt boot_sorted (pa_cons
          (pe_comp (g := gName 1) (own := [".0", "_law_part"]) (cl := []) (caps := []) (js := []) rfl (caps0 rfl rfl (by decide +kernel) (by decide +kernel)) (pi_list (pv 5))
            (fun pins C s H1 fp => pg_name (i := 1) nd_ownp rfl (Or.inl rfl)) (fun pins C s H1 fp => pts_nil) (fun pins C s H1 fp => pe_ix (ix_listK K rfl) (pv 1) pe_int (fun _ _ => rfl))) pa_nil)) (nomark _)) (pss_one (ps_ret pe_bl)) pss_nil
    have m1 := B.W.m1
    have lps := G13.parts_len (m := m) (T := T) (O := O) (i := m)
    -- handed = list(points)
    refine ⟨_, rfl, o, _, rfl, .inl B.S, fun hd hhd => ?_⟩
    have s1 : Same H (upd H hd (.lst (O.map V.int))) := Same.new hhd
    have hh1 : upd H hd (.lst (O.map V.int)) hd = some (.lst (O.map V.int)) := upd_same
    dsimp only
    show tSeq _ _ _ _ (upd H hd (.lst (O.map V.int)))
    generalize upd H hd (.lst (O.map V.int)) = H1 at s1 hh1 ⊢
    -- found = parts(web, handed)
    refine ⟨_, rfl, _, rfl, p, hd, m, T, O, rfl, B.W.same s1, SqL.of hh1, by have := B.l; omega, fun f qs H2 s2 ff hq hf hL => ?_⟩
    have lqs := Paired.length hL
    have R : Rd1 H H2 hd f m T O qs := ⟨s1.trans s2, hhd, s1.free ff, s2 hd _ hh1, hf, hL, fun q h => ⟨s1.free (hq q h).1, (hq q h).2, fun z => by
      have := (hq q h).1
      rw [z, hh1] at this; cases this⟩, ne_of_none hh1 ff⟩
    -- if not listed(found) or handed != points
    refine ⟨_, rfl, f, qs, _, rfl, hf, hL, parts_props m1, fun H3 s3 => ⟨true, rfl, iteF ?_⟩⟩
    have R3 := R.same s3
    refine ⟨_, rfl, _, rfl, hd, o, O, O, rfl, rfl, SqL.of R3.hh, R3.s.seq B.S, _, rfl, ?_⟩
    refine iteNS rfl ?_
    -- the first points are in order
    have hn : ∀ t ∈ G13.partsTo m T O m, t ≠ [] := fun t ht => (parts_props m1 t ht).1
    refine ⟨_, rfl, f, rfl, ⟨_, SqL.of R3.hf⟩, fun D1 hD1 => turns_heads R3.hf R3.hL hn (by omega) hD1 fun H4 s4 h4 => ?_⟩
    have R4 := R3.same s4
    refine ⟨_, rfl, f, rfl, ⟨_, SqL.of R4.hf⟩, fun D2 hD2 => turns_heads R4.hf R4.hL hn (by omega) hD2 fun H5 s5 h5 => ?_⟩
    have R5 := R4.same s5
    have hlt : ((G13.partsTo m T O m).map fun c => c.headD 0).Pairwise (· < ·) := by
      rw [G13.heads (Int.le_refl _)]
      exact G13.firsts_lt
    refine ⟨D2, _, rfl, SqL.of h5, by rw [List.length_map]; omega, fun t' q hp hs hq' => ?_⟩
    have et := G13.sorted_self hp hs hlt
    have s6 : Same H5 (upd H5 q (.lst (t'.map V.int))) := Same.new hq'
    refine ⟨D1, q, _, t', rfl, rfl, SqL.of ((s5.trans s6) D1 _ h4), SqL.of upd_same, _, rfl, ?_⟩
    refine iteNS et.symm ?_
    exact ⟨p, r, o, hd, f, m, rs, T, O, qs, H, _, _, _, _, _, _, _, _, _, rfl, B, R5.same s6, hQ⟩
/-! the law -/
structure CallsL (P : Program) (w : World) (K : PySem.W.Frag) (mg : Str → Option Value) (base : Heap) (C CT CB C2 : Addr) : Prop where
  web : TxtW K mg C
  ini : ∃ fI fdI, Mk K C fI ∧ FnOk P w K mg base (CXx P w) 3 fI fdI ["self", "many", "ties"] (spInit C CT CB C2 K) ∧ Binds K fdI ["self", "many", "ties"] []
  cel : ∃ f fd, mg "_law_cell_at" = some (.ref f) ∧ PySem.W.keepIn K (.ref f) = true ∧ FnOk P w K mg base CX0 1 f fd ["_law_script", "_law_k"] (spCell K) ∧ Binds K fd ["_law_script", "_law_k"] []
  row : ∃ f fd, mg "_law_rows" = some (.ref f) ∧ PySem.W.keepIn K (.ref f) = true ∧ FnOk P w K mg base CX0 3 f fd ["_law_script", "_law_many", "_law_way"] (spRows K) ∧ Binds K fd ["_law_script", "_law_many", "_law_way"] []
  out : ∃ f fd, mg "_law_out" = some (.ref f) ∧ PySem.W.keepIn K (.ref f) = true ∧ FnOk P w K mg base CX0 2 f fd ["_law_many", "_law_cell", "_law_way"] spOut ∧ Binds K fd ["_law_many", "_law_cell", "_law_way"] []
  rig : ∃ f fd, mg "_law_right" = some (.ref f) ∧ PySem.W.keepIn K (.ref f) = true ∧ FnOk P w K mg base CX0 5 f fd ["_law_web", "_law_rows_here", "_law_many", "_law_points"] (spRight C K) ∧ Binds K fd ["_law_web", "_law_rows_here", "_law_many", "_law_points"] []
def spLaw (K : PySem.W.Frag) : Sp := fun vs H Q _ => ∃ (a : Addr) (ns : List Int), vs = [.ref a] ∧ SqL K H a (ns.map V.int) ∧ ns.length ≤ 63 ∧ ∀ H', Q (.bl true) H'
abbrev nmL : List Str := ["_law_script", "_law_head", "_law_many", "_law_rows_here", "_law_points", "_law_web", "_law_others"]
theorem scLaw : FnScope nmL ["_law_script"] (defScope sLaw) := ⟨rfl, rfl, rfl, by decide +kernel, rfl, by decide +kernel, by decide +kernel⟩
theorem ok_law {f CT CB C2 : Addr} {fd : FuncData} (F : Fun K "law" "law" sLaw f fd) (G : CallsL P w K mg base C CT CB C2) : FnOk P w K mg base CX0 6 f fd ["_law_script"] (spLaw K) := by
  obtain ⟨fI, fdI, MI, GI, bI⟩ := G.ini
  obtain ⟨f1, fd1, m1, k1, G1, b1⟩ := G.cel
  obtain ⟨f2, fd2, m2, k2, G2, b2⟩ := G.row
  obtain ⟨f3, fd3, m3, k3, G3, b3⟩ := G.out
  obtain ⟨f4, fd4, m4, k4, G4, b4⟩ := G.rig
  refine F.ok scLaw (fun vs H Q E h => ?_) (fun cdv A outer s H vs Q E hr h => ?_)
  · obtain ⟨a, ns, rfl, _⟩ := h
    rfl
  · obtain ⟨a, ns, rfl, hS, hns, hQ⟩ := h
    have hr1 : Room 1 _ := hr.mono (by decide)
    have hr2 : Room 2 _ := hr.mono (by decide)
    have hr3 : Room 3 _ := hr.mono (by decide)
    have hr4 : Room 4 _ := hr.mono (by decide)
    refine' ⟨_, pss_cons ?s0 (pss_cons ?s1 (pss_cons ?s2 (pss_cons ?s3 (pss_cons ?s4 (pss_cons ?s5 (pss_cons ?s6 (pss_one ?s7))))))), ?_⟩
    case s0 => exact ps_set (i := 1) scLaw.nd rfl (Or.inl rfl) (pe_op op_mod (pe_call G1 hr1 rfl m1 k1 b1 .nil pass0 (pa_cons (pv 0) (pa_cons pe_int pa_nil))) pe_int)
    case s1 => exact ps_set (i := 2) scLaw.nd rfl (Or.inl rfl) (pe_ix ix_list (pe_lst (pa_cons (pe_op op_mod (pe_op op_fdiv (pv 1) pe_int) pe_int) (pa_cons (pe_op op_add pe_int (pe_op op_mod (pe_op op_fdiv (pv 1) pe_int) pe_int)) pa_nil))) (pe_op op_mod (pv 1) pe_int) (fun _ _ => rfl))
    case s2 => exact ps_set (i := 3) scLaw.nd rfl (Or.inl rfl) (pe_call G2 hr3 rfl m2 k2 b2 .nil pass0 (pa_cons (pv 0) (pa_cons (pv 2) (pa_cons (pe_op op_mod (pe_op op_fdiv (pv 1) pe_int) pe_int) pa_nil))))
    case s3 => exact ps_set (i := 4) scLaw.nd rfl (Or.inl rfl) (pe_call G3 hr2 rfl m3 k3 b3 .nil pass0 (pa_cons (pv 2) (pa_cons (pe_call G1 hr1 rfl m1 k1 b1 .nil pass0 (pa_cons (pv 0) (pa_cons pe_int pa_nil))) (pa_cons (pe_op op_mod (pe_op op_fdiv (pv 1) pe_int) pe_int) pa_nil))))
    case s4 => exact ps_set (i := 5) scLaw.nd rfl (Or.inl rfl) (pe_make MI GI hr4 rfl G.web.mgC bI .nil passNo (pa_cons (pv 2) (pa_cons (pv 3) pa_nil)))
    case s5 => exact ps_if (pt_not (pt_val (pe_call G4 hr (by rfl) m4 k4 b4 .nil pass0 (pa_cons (pv 5) (pa_cons (pv 3) (pa_cons (pv 2) (pa_cons (pv 4) pa_nil))))))) (pss_one (ps_ret pe_bl)) pss_nil
    case s6 => exact ps_set (i := 6) scLaw.nd rfl (Or.inl rfl) (pe_call G3 hr2 rfl m3 k3 b3 .nil pass0 (pa_cons (pv 2) (pa_cons (pe_op op_add (pe_call G1 hr1 rfl m1 k1 b1 .nil pass0 (pa_cons (pv 0) (pa_cons pe_int pa_nil))) pe_int) (pa_cons (pe_op op_add pe_int (pe_op op_mod (pe_op op_fdiv (pv 1) pe_int) pe_int)) pa_nil))))
    case s7 => exact ps_ret (pe_and (pe_call G4 hr rfl m4 k4 b4 .nil pass0 (pa_cons (pv 5) (pa_cons (pv 3) (pa_cons (pv 2) (pa_cons (pv 6) pa_nil))))) (pe_one (pe_call G4 hr rfl m4 k4 b4 .nil pass0 (pa_cons (pv 5) (pa_cons (pv 3) (pa_cons (pv 2) (pa_cons (pv 4) pa_nil)))))))
    -- head
    refine ⟨_, rfl, a, ns, 0, rfl, hS, fun n0 => ⟨_, _, rfl, rfl, (by show (0 : Int) < 1000003; decide), ?_⟩⟩
    dsimp only
    show tSeq _ _ _ [some (.ref a), some (.int (n0 % 1000003)), none, none, none, none, none] H
    generalize n0 % 1000003 = h
    -- many
    refine ⟨_, rfl, _, _, rfl, rfl, ⟨by decide, by decide⟩, _, _, rfl, rfl, (by show (0 : Int) < 25; decide), _, rfl, _, _, rfl, rfl, ⟨by decide, by decide⟩, _, _, rfl, rfl, (by show (0 : Int) < 8; decide), _, _, rfl, rfl, (by show 2 ≤ sizeLine; decide), fun l hl => ?_⟩
    obtain ⟨m, hm, hv⟩ := pick2 (xs := [h / 8 % 25, 2 + h / 8 % 8]) (z := h % 2) (by omega) (by show h % 2 < 2; omega)
    have mm : 0 ≤ m ∧ m ≤ 24 := by
      simp only [List.mem_cons, List.not_mem_nil, or_false] at hm
      rcases hm with rfl | rfl <;> omega
    have s1 : Same H (upd H l (.lst [.int (h / 8 % 25), .int (2 + h / 8 % 8)])) := Same.new hl
    refine ⟨_, rfl, _, _, rfl, rfl, (by show (0 : Int) < 2; decide), l, _, _, _, rfl, rfl, SqL.of upd_same, hv, ?_⟩
    dsimp only
    show tSeq _ _ _ [some (.ref a), some (.int h), some (.int m), none, none, none, none] (upd H l (.lst [.int (h / 8 % 25), .int (2 + h / 8 % 8)]))
    generalize upd H l (.lst [.int (h / 8 % 25), .int (2 + h / 8 % 8)]) = H1 at s1 ⊢
    -- rows
    refine ⟨_, rfl, _, rfl, _, rfl, _, _, rfl, rfl, ⟨by decide, by decide⟩, _, _, rfl, rfl, (by show (0 : Int) < 3; decide), a, m, _, ns, rfl, s1.seq hS, hns, mm.1, mm.2, by omega, by omega, fun r rs T H2 s2 hr' hT lT sg => ?_⟩
    -- points
    have s02 := s1.trans s2
    refine ⟨_, rfl, _, rfl, a, ns, 1, rfl, s02.seq hS, fun n1 => ⟨_, rfl, _, _, rfl, rfl, ⟨by decide, by decide⟩, _, _, rfl, rfl, (by show (0 : Int) < 5; decide), m, _, _, rfl, mm.1, mm.2, fun o O H3 s3 ho lO => ?_⟩⟩
    have s03 := s02.trans s3
    have hr3' := s3 r _ hr'
    have hT3 := TupsH.same s3 hT
    -- web
    refine ⟨_, rfl, _, rfl, fun x dx hx hdx ndx => ?_⟩
    have s4 : Same H3 (upd (upd H3 dx (.own x)) x (.ins C dx [])) := fun b o e => by
      rw [upd_ne (ne_of_none e hx), upd_ne (ne_of_none e hdx)]
      exact e
    have nc : ¬ (m < 0 ∨ 24 < m) := by omega
    refine ⟨x, m, r, dx, rs, T, rfl, upd_same, ⟨SqL.of (s4 r _ hr3'), TupsH.same s4 hT3⟩, by omega, fun c H' _ => (nc c).elim, fun _ => ⟨fun z => (by rw [sg] at z; cases z), fun z => (by rw [sg] at z; cases z), fun _ H5 k5 W => ⟨rfl, ?_⟩⟩⟩
    have s35 : Same H3 H5 := fun b o e => k5 b o (s4 b o e) (ne_of_none e hx)
    have s05 := s03.trans s35
    have R5 : RowsAt K H5 r rs T := ⟨SqL.of (s35 r _ hr3'), TupsH.same s35 hT3⟩
    have ho5 := s35 o _ ho
    -- if not right(..)
    refine ⟨_, rfl, _, rfl, _, rfl, _, rfl, x, r, o, m, rs, T, O, rfl, ⟨W, R5, SqL.of ho5, lO⟩, fun H6 s6 => ⟨true, rfl, iteF ?_⟩⟩
    -- others
    refine ⟨_, rfl, _, rfl, a, ns, 1, rfl, (s05.trans s6).seq hS, fun n2 => ⟨_, _, rfl, rfl, _, rfl, _, _, rfl, rfl, ⟨by decide, by decide⟩, _, _, rfl, rfl, (by show (0 : Int) < 3; decide), _, _, rfl, rfl, m, _, _, rfl, mm.1, mm.2, fun o2 O2 H7 s7 ho2 lO2 => ?_⟩⟩
    have s57 := s6.trans s7
    refine ⟨_, rfl, _, rfl, _, rfl, _, rfl, x, r, o2, m, rs, T, O2, rfl, ⟨W.same s57, R5.same s57, SqL.of ho2, lO2⟩, fun H8 s8 => ⟨true, rfl, iteT ?_⟩⟩
    have s58 := s57.trans s8
    exact ⟨_, rfl, _, rfl, _, rfl, _, rfl, x, r, o, m, rs, T, O, rfl, ⟨W.same s58, R5.same s58, SqL.of (s58 o _ ho5), lO⟩, fun H9 s9 => hQ _⟩
end
/-- a def of the top -/
def DefAt (K : PySem.W.Frag) (mg : Str → Option Value) (x : Str) (st : Stmt) : Prop := ∃ f fd, mg x = some (.ref f) ∧ Fun K x x st f fd
theorem def_mk {K : PySem.W.Frag} {mg : Str → Option Value} {h : Heap} {x : Str} {st : Stmt} {f : Addr} {oc : Value} {od an : Option Addr} {osl : Array (Option Value)} {kV doc pm cdv ct : Value} (X : K.In h) (G : h.Ns mainGlobals mg)
    (a : PySem.W.nsIn K mainGlobals x = some (some (.ref f))) (l : K.lookup f = some ⟨oc, od, .func (PySem.W.fnOf x x (defArgs st) (defBody st) (defScope st) .none kV doc pm an cdv ct), osl⟩)
    (c : PySem.W.codeIn K cdv x = true) (k : PySem.W.keepIn K (.ref f) = true) : DefAt K mg x st := ⟨f, _, PySem.W.mg_of X G a, fun_mk l c k⟩
/-- a method of a class -/
def MetAt (K : PySem.W.Frag) (C : Addr) (x q : Str) (st : Stmt) : Prop := ∃ f fd, Meth K C x f ∧ Fun K x q st f fd
theorem met_mk {K : PySem.W.Frag} {C : Addr} {x q : Str} {st : Stmt} {f : Addr} {oc : Value} {od an : Option Addr} {osl : Array (Option Value)} {kV doc pm cdv ct : Value}
    (a : PySem.W.findIn K (.ref C) x = some (some (.ref f))) (i : PySem.W.isFn K (.ref f) = true) (l : K.lookup f = some ⟨oc, od, .func (PySem.W.fnOf x q (defArgs st) (defBody st) (defScope st) .none kV doc pm an cdv ct), osl⟩)
    (c : PySem.W.codeIn K cdv q = true) (k : PySem.W.keepIn K (.ref f) = true) : MetAt K C x q st := ⟨f, _, ⟨a, i, k⟩, fun_mk l c k⟩
theorem cls_mk {K : PySem.W.Frag} {C : Addr} (pg : PySem.W.plainGet K C Str.empty = true) (hd : PySem.W.hasDictIn K C = true) (po : PySem.W.plainOver K C = true) (sa : PySem.W.findIn K (.ref C) "__setattr__" = some (some (.builtin "object.__setattr__"))) : Cls K C := ⟨pg, hd, po, sa⟩
theorem calls_mk {P : Program} {w : World} {K : PySem.W.Frag} {mg : Str → Option Value} {base : Heap} {C CT CB C2 : Addr} {u24 : Value} (web : TxtW K mg C) (kit : Kit K mg)
    (eT : ExcC K mg "TooMany" CT mroV newV) (eB : ExcC K mg "BadTie" CB mroV newV) (eD : ExcC K mg "Twice" C2 mroV newV) (gmin : mg "min" = none) (gmax : mg "max" = none) (glen : mg "len" = none) (grange : mg "range" = none) (gall : mg "all" = none)
    (g24 : mg "MOST_POINTS" = some u24) (r24 : RelV (.int 24) u24) (mk : PySem.W.makesIn K C = true) (kc : PySem.W.keepIn K (.ref C) = true)
    (d0 : DefAt K mg "part_from" sFrom) (d1 : DefAt K mg "parts" sParts) (d2 : DefAt K mg "odd_parts" sOdd) (d3 : DefAt K mg "check_size" sSize) (d4 : DefAt K mg "check_ends" sEnds) (d5 : DefAt K mg "ordered" sOrd) (d6 : DefAt K mg "weights_of" sWts) (d7 : DefAt K mg "neighbours_of" sNb) (d8 : DefAt K mg "_law_cell_at" sCell) (d9 : DefAt K mg "_law_whole" sWhole) (d10 : DefAt K mg "_law_mixed" sMix) (d11 : DefAt K mg "_law_drawn" sDrawn) (d12 : DefAt K mg "_law_nth" sNth) (d13 : DefAt K mg "_law_rows" sRows) (d14 : DefAt K mg "_law_out" sOut) (d15 : DefAt K mg "_law_listed" sListed) (d16 : DefAt K mg "_law_hangs" sHangs) (d17 : DefAt K mg "_law_right" sRight)
    (mI : MetAt K C "__init__" "Web.__init__" sInit) (mS : MetAt K C "size" "Web.size" sMSize) (mT : MetAt K C "tied" "Web.tied" sTied) : CallsL P w K mg base C CT CB C2 := by
  obtain ⟨f0, fd0, m0, F0⟩ := d0
  obtain ⟨f1, fd1, m1, F1⟩ := d1
  obtain ⟨f2, fd2, m2, F2⟩ := d2
  obtain ⟨f3, fd3, m3, F3⟩ := d3
  obtain ⟨f4, fd4, m4, F4⟩ := d4
  obtain ⟨f5, fd5, m5, F5⟩ := d5
  obtain ⟨f6, fd6, m6, F6⟩ := d6
  obtain ⟨f7, fd7, m7, F7⟩ := d7
  obtain ⟨f8, fd8, m8, F8⟩ := d8
  obtain ⟨f9, fd9, m9, F9⟩ := d9
  obtain ⟨f10, fd10, m10, F10⟩ := d10
  obtain ⟨f11, fd11, m11, F11⟩ := d11
  obtain ⟨f12, fd12, m12, F12⟩ := d12
  obtain ⟨f13, fd13, m13, F13⟩ := d13
  obtain ⟨f14, fd14, m14, F14⟩ := d14
  obtain ⟨f15, fd15, m15, F15⟩ := d15
  obtain ⟨f16, fd16, m16, F16⟩ := d16
  obtain ⟨f17, fd17, m17, F17⟩ := d17
  obtain ⟨fI, fdI, MI, FI⟩ := mI
  obtain ⟨fS, fdS, MS, FS⟩ := mS
  obtain ⟨fT, fdT, MT, FT⟩ := mT
  have b0 := F0.binds (ps := ["web", "start", "met"]) fun _ _ _ _ _ _ us hl => match us, hl with | [_, _, _], _ => rfl
  have b1 := F1.binds (ps := ["web", "out"]) fun _ _ _ _ _ _ us hl => match us, hl with | [_, _], _ => rfl
  have b2 := F2.binds (ps := ["web", "out"]) fun _ _ _ _ _ _ us hl => match us, hl with | [_, _], _ => rfl
  have b3 := F3.binds (ps := ["many"]) fun _ _ _ _ _ _ us hl => match us, hl with | [_], _ => rfl
  have b4 := F4.binds (ps := ["many", "a", "b"]) fun _ _ _ _ _ _ us hl => match us, hl with | [_, _, _], _ => rfl
  have b5 := F5.binds (ps := ["a", "b"]) fun _ _ _ _ _ _ us hl => match us, hl with | [_, _], _ => rfl
  have b6 := F6.binds (ps := ["many", "ties"]) fun _ _ _ _ _ _ us hl => match us, hl with | [_, _], _ => rfl
  have b7 := F7.binds (ps := ["many", "ends_sorted"]) fun _ _ _ _ _ _ us hl => match us, hl with | [_, _], _ => rfl
  have b8 := F8.binds (ps := ["_law_script", "_law_k"]) fun _ _ _ _ _ _ us hl => match us, hl with | [_, _], _ => rfl
  have b9 := F9.binds (ps := ["_law_found"]) fun _ _ _ _ _ _ us hl => match us, hl with | [_], _ => rfl
  have b10 := F10.binds (ps := ["_law_cell", "_law_factor"]) fun _ _ _ _ _ _ us hl => match us, hl with | [_, _], _ => rfl
  have b11 := F11.binds (ps := ["_law_cell", "_law_factor"]) fun _ _ _ _ _ _ us hl => match us, hl with | [_, _], _ => rfl
  have b12 := F12.binds (ps := ["_law_cell", "_law_k"]) fun _ _ _ _ _ _ us hl => match us, hl with | [_, _], _ => rfl
  have b13 := F13.binds (ps := ["_law_script", "_law_many", "_law_way"]) fun _ _ _ _ _ _ us hl => match us, hl with | [_, _, _], _ => rfl
  have b14 := F14.binds (ps := ["_law_many", "_law_cell", "_law_way"]) fun _ _ _ _ _ _ us hl => match us, hl with | [_, _, _], _ => rfl
  have b15 := F15.binds (ps := ["_law_found"]) fun _ _ _ _ _ _ us hl => match us, hl with | [_], _ => rfl
  have b16 := F16.binds (ps := ["_law_part", "_law_rows_here"]) fun _ _ _ _ _ _ us hl => match us, hl with | [_, _], _ => rfl
  have b17 := F17.binds (ps := ["_law_web", "_law_rows_here", "_law_many", "_law_points"]) fun _ _ _ _ _ _ us hl => match us, hl with | [_, _, _, _], _ => rfl
  have bI := FI.binds (ps := ["self", "many", "ties"]) fun _ _ _ _ _ _ us hl => match us, hl with | [_, _, _], _ => rfl
  have bS := FS.binds (ps := ["self"]) fun _ _ _ _ _ _ us hl => match us, hl with | [_], _ => rfl
  have bT := FT.binds (ps := ["self", "a"]) fun _ _ _ _ _ _ us hl => match us, hl with | [_, _], _ => rfl
  have G3 := ok_size (P := P) (w := w) (mg := mg) (base := base) F3 eT g24 r24
  have G4 := ok_ends (P := P) (w := w) (mg := mg) (base := base) F4 eB
  have G5 := ok_ord (P := P) (w := w) (mg := mg) (base := base) F5 gmin gmax
  have G6 := ok_wts (P := P) (w := w) (mg := mg) (base := base) F6 eD G4 m4 F4.kp b4 G5 m5 F5.kp b5
  have G7 := ok_nb (P := P) (w := w) (mg := mg) (base := base) F7 grange
  have GI := ok_init (P := P) (w := w) (mg := mg) (base := base) FI web G3 m3 F3.kp b3 G6 m6 F6.kp b6 G7 m7 F7.kp b7
  have GS := ok_msize (P := P) (w := w) (mg := mg) (base := base) FS web
  have GT := ok_tied (P := P) (w := w) (mg := mg) (base := base) FT web
  have G0 := ok_from (P := P) (w := w) (mg := mg) (base := base) F0 web MT GT bT
  have G1 := ok_parts (P := P) (w := w) (mg := mg) (base := base) F1 web grange G0 m0 F0.kp b0 MS GS bS
  have G2 := ok_odd (P := P) (w := w) (mg := mg) (base := base) F2 glen G1 m1 F1.kp b1
  have G8 := ok_cell (P := P) (w := w) (mg := mg) (base := base) F8 glen
  have G9 := ok_whole (P := P) (w := w) (mg := mg) (base := base) F9 kit
  have G10 := ok_mix (P := P) (w := w) (mg := mg) (base := base) F10
  have G11 := ok_drawn (P := P) (w := w) (mg := mg) (base := base) F11 kit G10 m10 F10.kp b10
  have G12 := ok_nth (P := P) (w := w) (mg := mg) (base := base) F12 grange
  have G13' := ok_rows (P := P) (w := w) (mg := mg) (base := base) F13 gmin gmax G11 m11 F11.kp b11
  have G14 := ok_out (P := P) (w := w) (mg := mg) (base := base) F14 glen grange G10 m10 F10.kp b10 G12 m12 F12.kp b12
  have G15 := ok_listed (P := P) (w := w) (mg := mg) (base := base) F15 kit gall web.srt G9 m9 F9.kp b9
  have G16 := ok_hangs (P := P) (w := w) (mg := mg) (base := base) F16 glen grange web.srt
  have R : CallsR P w K mg base C := ⟨web, kit, gmin, gmax, glen, grange, gall, ⟨f1, fd1, m1, F1.kp, G1, b1⟩, ⟨f2, fd2, m2, F2.kp, G2, b2⟩, ⟨f15, fd15, m15, F15.kp, G15, b15⟩, ⟨f16, fd16, m16, F16.kp, G16, b16⟩⟩
  have G17 := ok_right (P := P) (w := w) (mg := mg) (base := base) F17 R
  exact ⟨web, ⟨fI, fdI, ⟨mk, MI.at_, MI.fn, kc⟩, GI, bI⟩, ⟨f8, fd8, m8, F8.kp, G8, b8⟩, ⟨f13, fd13, m13, F13.kp, G13', b13⟩, ⟨f14, fd14, m14, F14.kp, G14, b14⟩, ⟨f17, fd17, m17, F17.kp, G17, b17⟩⟩
theorem law_mk {P : Program} {w : World} {K : PySem.W.Frag} {mg : Str → Option Value} {C CT CB C2 fa : Addr} (hmg : mg "law" = some (.ref fa)) (d : DefAt K mg "law" sLaw) (G : ∀ base : Heap, CallsL P w K mg base C CT CB C2) :
    ∃ fd : FuncData, (∀ (s : Shared) (u : Value), BindsTo s fd ⟨[u], []⟩ [("_law_script", u)]) ∧ ∀ base : Heap, K.In base → base.Ns mainGlobals mg → FnOk P w K mg base CX0 6 fa fd ["_law_script"] (spLaw K) := by
  obtain ⟨f, fd, m, F⟩ := d
  cases hmg.symm.trans m
  obtain ⟨oc, od, kV, doc, pm, an, cdv, ct, osl, rfl, l, c⟩ := F.ex
  exact ⟨_, fun s u => .of_eq rfl, fun base _ _ => ok_law F (G base)⟩
theorem all_mk {P : Program} {w : World} {K : PySem.W.Frag} {mg : Str → Option Value} {h : Heap} {fa C T B D : Addr} {t24 : Tok} (X : K.In h) (G : h.Ns mainGlobals mg) (hmg : mg "law" = some (.ref fa))
    (aC : PySem.W.nsIn K mainGlobals "Web" = some (some (.ref C))) (aT : PySem.W.nsIn K mainGlobals "TooMany" = some (some (.ref T))) (aB : PySem.W.nsIn K mainGlobals "BadTie" = some (some (.ref B))) (aD : PySem.W.nsIn K mainGlobals "Twice" = some (some (.ref D))) (a24 : PySem.W.nsIn K mainGlobals "MOST_POINTS" = some (some (.int 24 t24)))
    (z0 : PySem.W.nsIn K mainGlobals "isinstance" = some none) (z1 : PySem.W.nsIn K mainGlobals "int" = some none) (z2 : PySem.W.nsIn K mainGlobals "bool" = some none) (z3 : PySem.W.nsIn K mainGlobals "list" = some none) (z4 : PySem.W.nsIn K mainGlobals "sorted" = some none) (z5 : PySem.W.nsIn K mainGlobals "min" = some none) (z6 : PySem.W.nsIn K mainGlobals "max" = some none) (z7 : PySem.W.nsIn K mainGlobals "len" = some none) (z8 : PySem.W.nsIn K mainGlobals "range" = some none) (z9 : PySem.W.nsIn K mainGlobals "all" = some none)
    (cls : Cls K C) (mk : PySem.W.makesIn K C = true) (kc : PySem.W.keepIn K (.ref C) = true)
    (n1 : PySem.W.findIn K (.ref C) "many" = some none) (n2 : PySem.W.findIn K (.ref C) "weights" = some none) (n3 : PySem.W.findIn K (.ref C) "ties_sorted" = some none) (n4 : PySem.W.findIn K (.ref C) "neighbours" = some none)
    (eT : PySem.W.excIn K T mroV newV = true) (eB : PySem.W.excIn K B mroV newV = true) (eD : PySem.W.excIn K D mroV newV = true)
    (ii : PySem.W.kitOne K (.type "int") (.type "int") = some true) (ib : PySem.W.kitOne K (.type "int") (.type "bool") = some false) (ll : PySem.W.kitOne K (.type "list") (.type "list") = some true)
    (d0 : DefAt K mg "part_from" sFrom) (d1 : DefAt K mg "parts" sParts) (d2 : DefAt K mg "odd_parts" sOdd) (d3 : DefAt K mg "check_size" sSize) (d4 : DefAt K mg "check_ends" sEnds) (d5 : DefAt K mg "ordered" sOrd) (d6 : DefAt K mg "weights_of" sWts) (d7 : DefAt K mg "neighbours_of" sNb) (d8 : DefAt K mg "_law_cell_at" sCell) (d9 : DefAt K mg "_law_whole" sWhole) (d10 : DefAt K mg "_law_mixed" sMix) (d11 : DefAt K mg "_law_drawn" sDrawn) (d12 : DefAt K mg "_law_nth" sNth) (d13 : DefAt K mg "_law_rows" sRows) (d14 : DefAt K mg "_law_out" sOut) (d15 : DefAt K mg "_law_listed" sListed) (d16 : DefAt K mg "_law_hangs" sHangs) (d17 : DefAt K mg "_law_right" sRight)
    (mI : MetAt K C "__init__" "Web.__init__" sInit) (mS : MetAt K C "size" "Web.size" sMSize) (mT : MetAt K C "tied" "Web.tied" sTied) (dL : DefAt K mg "law" sLaw) :
    ∃ fd : FuncData, (∀ (s : Shared) (u : Value), BindsTo s fd ⟨[u], []⟩ [("_law_script", u)]) ∧ ∀ base : Heap, K.In base → base.Ns mainGlobals mg → FnOk P w K mg base CX0 6 fa fd ["_law_script"] (spLaw K) := by
  have q := fun {x : Str} {v : Value} (e : PySem.W.nsIn K mainGlobals x = some (some v)) => PySem.W.mg_of X G e
  have z := fun {x : Str} (e : PySem.W.nsIn K mainGlobals x = some none) => PySem.W.mg_none_of X G e
  refine law_mk (C := C) (CT := T) (CB := B) (C2 := D) hmg dL fun base => ?_
  exact calls_mk ⟨cls, n1, n2, n3, n4, q aC, z z4, z z3⟩ ⟨ii, ib, ll, z z0, z z1, z z2, z z3⟩ ⟨q aT, eT⟩ ⟨q aB, eB⟩ ⟨q aD, eD⟩ (z z5) (z z6) (z z7) (z z8) (z z9) (q a24) ⟨_, rfl⟩ mk kc d0 d1 d2 d3 d4 d5 d6 d7 d8 d9 d10 d11 d12 d13 d14 d15 d16 d17 mI mS mT
theorem walk {l : PySem.W.OpenLaw} {q : Program} {loose : List Str} {XP : (Str → Option Value) → Heap → Prop} {YP : World → Heap → Prop} {d : DefRec} {K : Params → PySem.W.Frag} (hn : l.most = some 63) (hdf : d.params.defaults = [])
    (hY : ∀ (w : World) (h : Heap), YP w h → (K w.params).In h)
    (F : ∀ (w : World) (mg : Str → Option Value) (fa : Addr) (h : Heap), (K w.params).In h → h.Ns mainGlobals mg → mg d.name = some (.ref fa) →
      ∃ fd : FuncData, (∀ (s : Shared) (u : Value), BindsTo s fd ⟨[u], []⟩ [("_law_script", u)]) ∧ ∀ base : Heap, (K w.params).In base → base.Ns mainGlobals mg → FnOk l.prog w (K w.params) mg base CX0 6 fa fd ["_law_script"] (spLaw (K w.params))) :
    PySem.W.WalkO q loose XP YP l.row.toRowW d [] (fun f vs => PySem.call f vs) :=
  L2.walk_of (n := 63) (k := 6) (x := "_law_script") (CX := fun _ => CX0) (sp := fun w => spLaw (K w.params)) hn (by decide) hdf ⟨rfl, by decide, by decide⟩ hY F (fun _ _ a ns hl _ hS => ⟨a, ns, rfl, hS, hl, fun _ => rfl⟩) fun _ _ _ _ _ z => z
end K13

open PySem PySem.W PyProof.Rows
set_option maxRecDepth 100000 in
set_option maxHeartbeats 0 in
theorem PySem.Challenge.cw_pairsheath_k13_whole_web_in_parts_holds : PySem.Challenge.rw_pairsheath_k13_whole_web_in_parts.Holds := by
  w_on; o_law; k_head; (case hw => w_witness2)
  k_fill
  refine K13.walk (l := PySem.Challenge.rw_pairsheath_k13_whole_web_in_parts) rfl rfl (fun w h Y => PySem.W.kIn_of Y) ?F
  case F =>
    intro w mg fa h KX G hmg
    refine' K13.all_mk KX G hmg ?aC ?aT ?aB ?aD ?a24 ?z0 ?z1 ?z2 ?z3 ?z4 ?z5 ?z6 ?z7 ?z8 ?z9 ?cls ?mk ?kc ?n1 ?n2 ?n3 ?n4 ?eT ?eB ?eD ?ii ?ib ?ll ?d0 ?d1 ?d2 ?d3 ?d4 ?d5 ?d6 ?d7 ?d8 ?d9 ?d10 ?d11 ?d12 ?d13 ?d14 ?d15 ?d16 ?d17 ?mI ?mS ?mT ?dL
    (case aC => k_is)
    (case aT => k_is)
    (case aB => k_is)
    (case aD => k_is)
    (case a24 => k_is)
    (case z0 => k_is)
    (case z1 => k_is)
    (case z2 => k_is)
    (case z3 => k_is)
    (case z4 => k_is)
    (case z5 => k_is)
    (case z6 => k_is)
    (case z7 => k_is)
    (case z8 => k_is)
    (case z9 => k_is)
    (case mk => k_is)
    (case kc => k_is)
    (case n1 => k_is)
    (case n2 => k_is)
    (case n3 => k_is)
    (case n4 => k_is)
    (case cls => refine' K13.cls_mk ?pg ?hd ?po ?sa; (case pg => k_is); (case hd => k_is); (case po => k_is); (case sa => k_is))
    (case eT => k_exc)
    (case eB => k_exc)
    (case eD => k_exc)
    (case ii => kit_is)
    (case ib => kit_is)
    (case ll => kit_is)
    (case d0 => refine' K13.def_mk KX G ?a ?l ?c ?k; (case a => k_is); (case l => k_is); (case c => k_is); (case k => k_is))
    (case d1 => refine' K13.def_mk KX G ?a ?l ?c ?k; (case a => k_is); (case l => k_is); (case c => k_is); (case k => k_is))
    (case d2 => refine' K13.def_mk KX G ?a ?l ?c ?k; (case a => k_is); (case l => k_is); (case c => k_is); (case k => k_is))
    (case d3 => refine' K13.def_mk KX G ?a ?l ?c ?k; (case a => k_is); (case l => k_is); (case c => k_is); (case k => k_is))
    (case d4 => refine' K13.def_mk KX G ?a ?l ?c ?k; (case a => k_is); (case l => k_is); (case c => k_is); (case k => k_is))
    (case d5 => refine' K13.def_mk KX G ?a ?l ?c ?k; (case a => k_is); (case l => k_is); (case c => k_is); (case k => k_is))
    (case d6 => refine' K13.def_mk KX G ?a ?l ?c ?k; (case a => k_is); (case l => k_is); (case c => k_is); (case k => k_is))
    (case d7 => refine' K13.def_mk KX G ?a ?l ?c ?k; (case a => k_is); (case l => k_is); (case c => k_is); (case k => k_is))
    (case d8 => refine' K13.def_mk KX G ?a ?l ?c ?k; (case a => k_is); (case l => k_is); (case c => k_is); (case k => k_is))
    (case d9 => refine' K13.def_mk KX G ?a ?l ?c ?k; (case a => k_is); (case l => k_is); (case c => k_is); (case k => k_is))
    (case d10 => refine' K13.def_mk KX G ?a ?l ?c ?k; (case a => k_is); (case l => k_is); (case c => k_is); (case k => k_is))
    (case d11 => refine' K13.def_mk KX G ?a ?l ?c ?k; (case a => k_is); (case l => k_is); (case c => k_is); (case k => k_is))
    (case d12 => refine' K13.def_mk KX G ?a ?l ?c ?k; (case a => k_is); (case l => k_is); (case c => k_is); (case k => k_is))
    (case d13 => refine' K13.def_mk KX G ?a ?l ?c ?k; (case a => k_is); (case l => k_is); (case c => k_is); (case k => k_is))
    (case d14 => refine' K13.def_mk KX G ?a ?l ?c ?k; (case a => k_is); (case l => k_is); (case c => k_is); (case k => k_is))
    (case d15 => refine' K13.def_mk KX G ?a ?l ?c ?k; (case a => k_is); (case l => k_is); (case c => k_is); (case k => k_is))
    (case d16 => refine' K13.def_mk KX G ?a ?l ?c ?k; (case a => k_is); (case l => k_is); (case c => k_is); (case k => k_is))
    (case d17 => refine' K13.def_mk KX G ?a ?l ?c ?k; (case a => k_is); (case l => k_is); (case c => k_is); (case k => k_is))
    (case dL => refine' K13.def_mk KX G ?a ?l ?c ?k; (case a => k_is); (case l => k_is); (case c => k_is); (case k => k_is))
    (case mI => refine' K13.met_mk ?a ?i ?l ?c ?k; (case a => k_is); (case i => k_is); (case l => k_is); (case c => k_is); (case k => k_is))
    (case mS => refine' K13.met_mk ?a ?i ?l ?c ?k; (case a => k_is); (case i => k_is); (case l => k_is); (case c => k_is); (case k => k_is))
    (case mT => refine' K13.met_mk ?a ?i ?l ?c ?k; (case a => k_is); (case i => k_is); (case l => k_is); (case c => k_is); (case k => k_is))
