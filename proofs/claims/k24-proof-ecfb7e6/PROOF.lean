import PyProof.Rows.All
import Wide.All
import OpenK.AllK
import Wide.FinOn
import Lean
import PyProof.EqAt
import PyProof.EqKinds
import PyProof.TupleCall
import PySem.Challenge.RW_codemend_k24_what_is_apart
set_option Elab.async false
set_option linter.all false
set_option maxRecDepth 100000
/-! THE HAND LAYER, for ints, bools, texts, own classes, LISTS and tuples (index, slices, in, append, pop ..), calls, loops. Paste it whole ahead of your own text; what your proof does not reach may be deleted. -/
namespace L2
open PySem PySem.Spec PyProof.Rows

/-- a key: an int or a str -/
abbrev Key := Sum Int Str
def keyIs : Key → Value → Bool
  | .inl k, v => Value.isInt k v
  | .inr x, v => Value.isStrOf x v
def keyH (w : World) : Key → Int
  | .inl k => hashInt k
  | .inr x => hashStr w x
theorem keyIs_shape : ∀ {k : Key} {v : Value}, keyIs k v = true → (∃ i t, k = Sum.inl i ∧ v = Value.int i t) ∨ (∃ x t, k = Sum.inr x ∧ v = Value.str x t)
  | .inl i, v, h => by
    obtain ⟨t, e⟩ := Value.isInt_shape (k := i) (v := v) h
    exact .inl ⟨i, t, rfl, e⟩
  | .inr x, v, h => by
    obtain ⟨t, e⟩ := Value.isStrOf_shape (x := x) (v := v) h
    exact .inr ⟨x, t, rfl, e⟩
theorem keyIs_int (i : Int) (t : Tok) : keyIs (.inl i) (.int i t) = true := by simp [keyIs, Value.isInt]
theorem keyIs_str (x : Str) (t : Tok) : keyIs (.inr x) (.str x t) = true := by simp [keyIs, Value.isStrOf]
theorem key_ll (a b : Int) : decide ((Sum.inl a : Key) = Sum.inl b) = (a == b) := by
  by_cases e : a = b
  · subst e; simp
  · have h : ¬ (Sum.inl a : Key) = Sum.inl b := fun q => e (Sum.inl.inj q)
    rw [decide_eq_false h]
    exact (beq_eq_false_iff_ne.mpr e).symm
theorem key_rr (a b : Str) : decide ((Sum.inr a : Key) = Sum.inr b) = decide (a = b) := by
  by_cases e : a = b
  · subst e; simp
  · have h : ¬ (Sum.inr a : Key) = Sum.inr b := fun q => e (Sum.inr.inj q)
    rw [decide_eq_false h, decide_eq_false e]
theorem key_lr (a : Int) (b : Str) : decide ((Sum.inl a : Key) = Sum.inr b) = false := decide_eq_false (fun q => nomatch q)
theorem key_rl (a : Str) (b : Int) : decide ((Sum.inr a : Key) = Sum.inl b) = false := decide_eq_false (fun q => nomatch q)

def mixKind (prog : Program) (w : World) : PySem.KeyKind prog w Key where
  is := keyIs
  hash := keyH w
  inj := fun v a b ha hb => by
    rcases keyIs_shape ha with ⟨i, t, rfl, rfl⟩ | ⟨x, t, rfl, rfl⟩
    · rcases keyIs_shape hb with ⟨j, u, rfl, e⟩ | ⟨y, u, rfl, e⟩
      · injection e with e1 _; rw [e1]
      · exact nomatch e
    · rcases keyIs_shape hb with ⟨j, u, rfl, e⟩ | ⟨y, u, rfl, e⟩
      · exact nomatch e
      · injection e with e1 _; rw [e1]
  byValue := fun k v h => by
    rcases keyIs_shape h with ⟨i, t, rfl, rfl⟩ | ⟨x, t, rfl, rfl⟩ <;> rfl
  pyHash := fun hv h => by
    rcases keyIs_shape hv with ⟨i, t, rfl, rfl⟩ | ⟨x, t, rfl, rfl⟩
    · exact wpAny_pyHash_int h
    · exact wpAny_pyHash_str h
  eqBool := fun hu hv h => by
    rcases keyIs_shape hu with ⟨i, t, rfl, rfl⟩ | ⟨x, t, rfl, rfl⟩
    · rcases keyIs_shape hv with ⟨j, u, rfl, rfl⟩ | ⟨y, u, rfl, rfl⟩
      · rw [key_ll] at h; exact wpAny_eqBool_int h
      · rw [key_lr] at h; exact SeqAt.EqAt.int_str i t y u _ _ _ _ h
    · rcases keyIs_shape hv with ⟨j, u, rfl, rfl⟩ | ⟨y, u, rfl, rfl⟩
      · rw [key_rl] at h; exact SeqAt.EqAt.str_int x t j u _ _ _ _ h
      · rw [key_rr] at h; exact wpAny_eqBool_str h
  «strs» := fun k x t v h => by
    rcases keyIs_shape h with ⟨i, u, rfl, e⟩ | ⟨y, u, rfl, e⟩
    · exact nomatch e
    · injection e with e1 _
      subst e1
      cases v <;> rfl

theorem mixKind_int (prog : Program) (w : World) (i : Int) (t : Tok) : (mixKind prog w).is (.inl i) (.int i t) = true := keyIs_int i t
theorem mixKind_str (prog : Program) (w : World) (x : Str) (t : Tok) : (mixKind prog w).is (.inr x) (.str x t) = true := keyIs_str x t
end L2

namespace L2
open PySem PySem.Spec PyProof.Rows

/-- a value, without the heap -/
inductive V where
  | non | bl (b : Bool) | int (i : Int) | str (x : Str) | byt (b : Array UInt8) | flt (b : UInt64) | ref (a : Addr) | ty (n : String)
  deriving DecidableEq

def RelV : V → Value → Prop
  | .non, u => u = Value.none
  | .bl b, u => u = Value.bool b
  | .int i, u => ∃ t, u = Value.int i t
  | .str x, u => ∃ t, u = Value.str x t
  | .byt b, u => ∃ t, u = Value.bytes b t
  | .flt b, u => ∃ t, u = Value.float b t
  | .ref a, u => u = Value.ref a
  | .ty n, u => u = Value.type n

abbrev Vals : List V → List Value → Prop := Paired RelV
theorem Vals.length {xs : List V} {us : List Value} (r : Vals xs us) : xs.length = us.length := Paired.length r
theorem Vals.get : ∀ {xs : List V} {us : List Value} {i : Nat} {x : V}, Vals xs us → xs[i]? = some x → ∃ u, us[i]? = some u ∧ RelV x u
  | _, _, _, _, .nil, e => by simp at e
  | _, _, 0, _, .cons r _, e => by simp at e; subst e; exact ⟨_, rfl, r⟩
  | _, _, i + 1, x, .cons _ t, e => by
    obtain ⟨u, h1, h2⟩ := Vals.get (i := i) (x := x) t (by simpa using e)
    exact ⟨u, by simpa using h1, h2⟩
theorem Vals.set {x : V} {u : Value} (r : RelV x u) : ∀ {xs : List V} {us : List Value} (i : Nat), Vals xs us → Vals (xs.set i x) (us.set i u)
  | _, _, _, .nil => .nil
  | _, _, 0, .cons _ t => .cons r t
  | _, _, i + 1, .cons q t => .cons q (Vals.set r i t)
theorem Vals.append : ∀ {xs ys : List V} {us ws : List Value}, Vals xs us → Vals ys ws → Vals (xs ++ ys) (us ++ ws)
  | _, _, _, _, .nil, s => s
  | _, _, _, _, .cons r t, s => .cons r (Vals.append t s)
theorem Vals.take : ∀ {xs : List V} {us : List Value} (n : Nat), Vals xs us → Vals (xs.take n) (us.take n)
  | _, _, 0, _ => .nil
  | _, _, _ + 1, .nil => .nil
  | _, _, n + 1, .cons r t => .cons r (Vals.take n t)
theorem Vals.drop : ∀ {xs : List V} {us : List Value} (n : Nat), Vals xs us → Vals (xs.drop n) (us.drop n)
  | _, _, 0, r => r
  | _, _, _ + 1, .nil => .nil
  | _, _, n + 1, .cons _ t => Vals.drop n t

def RelO : Option V → Option Value → Prop
  | some v, some u => RelV v u
  | none, none => True
  | _, _ => False
def KV {κ : Type} : List (κ × V) → List (κ × Value) → Prop := Paired fun (p : κ × V) (q : κ × Value) => p.1 = q.1 ∧ RelV p.2 q.2

/-- a key of a dict (00_mix): an int or a text -/
def kV : Key → V
  | .inl i => .int i
  | .inr x => .str x

/-- what stands at a tracked address -/
inductive HO where
  /-- a list -/
  | lst (xs : List V)
  /-- a tuple (never changes) -/
  | tup (xs : List V)
  /-- a dict whose keys are ints and texts; one whose keys are tuples of ints and texts (the empty one is both) -/
  | dK (kvs : List (Key × V)) | dT (kvs : List (List Key × V))
  | dE (kvs : List (List Key × V)) (ep : Nat)
  /-- a set of ints: its members, its size -/
  | set (S : Int → Bool) (n : Nat)
  /-- an instance of the class at C, its dict at dx, its attributes -/
  | ins (C dx : Addr) (fs : List (Str × V))
  /-- the dict of the instance at x -/
  | own (x : Addr)
  /-- the dict of an exception -/
  | xd (fs : List (Str × V))
  /-- a bound method, f of x -/
  | met (f x : Addr)
  /-- a range object lo, lo + 1, .. below hi -/
  | rng (lo hi : Int)
  /-- a thing that is known to the object (the script; a dict while a loop walks it): read, never written while it is so -/
  | frz (o : Obj) (u : HO)
  /-- a code object's table -/
  | tbl (ps : Array Value)
  /-- any other thing, by what is true of its one object (a def of one's own: SetO a S n := HO.ext fun h => ..) -/
  | ext (φ : Heap → Prop)

abbrev Hp := Addr → Option HO
def upd (H : Hp) (a : Addr) (o : HO) : Hp := fun b => if b = a then some o else H b
theorem upd_same {H : Hp} {a : Addr} {o : HO} : upd H a o a = some o := by unfold upd; rw [if_pos rfl]
theorem upd_ne {H : Hp} {a b : Addr} {o : HO} (h : b ≠ a) : upd H a o b = H b := by unfold upd; rw [if_neg h]
theorem upd_upd {H : Hp} {a : Addr} {o u : HO} : upd (upd H a o) a u = upd H a u := by
  funext b; unfold upd; split <;> rfl
/-- two objects of different content stand apart -/
theorem ne_of {H : Hp} {a b : Addr} {o u : HO} (h : H a = some o) (h' : H b = some u) (d : o ≠ u) : a ≠ b := by
  intro e; subst e; rw [h] at h'; exact d (Option.some.inj h')
theorem ne_of_none {H : Hp} {a b : Addr} {o : HO} (h : H a = some o) (h' : H b = none) : a ≠ b := by
  intro e; subst e; rw [h] at h'; cases h'

section
variable (P : Program) (w : World)
def ObjOk (H : Hp) (h : Heap) (a : Addr) : HO → Prop
  | .lst xs => xs.length ≤ sizeLine ∧ ∃ (its : List Value) (n : Nat), Vals xs its ∧ h.get? a = some { cls := .type "list", data := .seq its.toArray n }
  | .tup xs => xs.length ≤ sizeLine ∧ ∃ its : List Value, Vals xs its ∧ IsTup h a its.toArray
  | .dK kvs => kvs.length ≤ sizeLine ∧ (a == sysModules) = false ∧ ∃ vs, KV kvs vs ∧ h.DictOf (mixKind P w) a vs
  | .dT kvs => kvs.length ≤ sizeLine ∧ (a == sysModules) = false ∧ ∃ xs : List (List Key × Addr × Value),
      Paired (fun (p : List Key × V) (q : List Key × Addr × Value) => p.1 = q.1 ∧ H q.2.1 = some (.tup (p.1.map kV)) ∧ RelV p.2 q.2.2) kvs xs ∧
      ∃ o es ep, h.get? a = some o ∧ o.ExactDict ∧ o.data = .dict es ep ∧ es.toList = xs.map (entryOfKey (tupleKind (mixKind P w))) ∧ (xs.map (·.1)).Nodup
  | .dE kvs ep => kvs.length ≤ sizeLine ∧ (a == sysModules) = false ∧ ∃ xs : List (List Key × Addr × Value),
      Paired (fun (p : List Key × V) (q : List Key × Addr × Value) => p.1 = q.1 ∧ H q.2.1 = some (.tup (p.1.map kV)) ∧ RelV p.2 q.2.2) kvs xs ∧
      ∃ o es, h.get? a = some o ∧ o.ExactDict ∧ o.data = .dict es ep ∧ es.toList = xs.map (entryOfKey (tupleKind (mixKind P w))) ∧ (xs.map (·.1)).Nodup
  | .set S n => h.SetOf (intKind P w) a S n
  | .ins C dx fs => H dx = some (.own a) ∧ fs.length ≤ 1000 ∧ dx ≠ a ∧ h.get? a = some (PySem.W.instObj C dx) ∧
      ∃ mA, h.Ns1 dx mA ∧ (∀ f, RelO (fs.lookup f) (mA f)) ∧ PySem.Within mA (fs.map (·.1))
  | .own _ => ∃ o, h.get? a = some o
  | .xd fs => ∃ mA, h.Ns1 a mA ∧ ∀ f, RelO (fs.lookup f) (mA f)
  | .rng lo hi => ∃ t u v, h.get? a = some { cls := .type "range", data := .fields #[.int lo t, .int hi u, .int 1 v] }
  | .frz o u => h.get? a = some o ∧ ObjOk H h a u
  | .tbl ps => h.get? a = some { cls := .none, data := .fields ps }
  | .met f x => h.get? a = some (PySem.W.methodObj (.ref f) (.ref x))
  | .ext φ => φ h ∧ (∃ o, h.get? a = some o) ∧ ∀ h1 h2 : Heap, φ h1 → (∀ o, h1.get? a = some o → h2.get? a = some o) → φ h2
/-- the abstract heap is held -/
def HOk (H : Hp) (h : Heap) : Prop := ∀ a o, H a = some o → ObjOk P w H h a o
end

section
variable {P : Program} {w : World} {H H' : Hp} {h h' : Heap} {a : Addr} {o : HO}
theorem ObjOk.lt (x : ObjOk P w H h a o) : a < h.objs.size := by
  cases o with
  | lst xs => obtain ⟨_, _, _, _, e⟩ := x; exact Heap.lt_size e
  | tup xs => obtain ⟨_, _, _, p⟩ := x; exact p.lt
  | dK kvs => obtain ⟨_, _, _, _, o, _, _, e, _⟩ := x; exact Heap.lt_size e
  | dT kvs => obtain ⟨_, _, _, _, o, _, _, e, _⟩ := x; exact Heap.lt_size e
  | dE kvs ep => obtain ⟨_, _, _, _, o, _, e, _⟩ := x; exact Heap.lt_size e
  | set S n => obtain ⟨o, _, _, _, e, _⟩ := x; exact Heap.lt_size e
  | ins C dx fs => obtain ⟨_, _, _, e, _⟩ := x; exact Heap.lt_size e
  | own y => obtain ⟨_, e⟩ := x; exact Heap.lt_size e
  | xd fs => obtain ⟨_, ⟨_, _, _, e, _⟩, _⟩ := x; exact Heap.lt_size e
  | rng lo hi => obtain ⟨_, _, _, e⟩ := x; exact Heap.lt_size e
  | frz ob u => obtain ⟨e, _⟩ := x; exact Heap.lt_size e
  | tbl ps => exact Heap.lt_size (show h.get? a = some _ from x)
  | met f y => exact Heap.lt_size (show h.get? a = some _ from x)
  | ext φ => obtain ⟨_, ⟨_, e⟩, _⟩ := x; exact Heap.lt_size e
theorem Paired.mapP {α β : Type} {F G : α → β → Prop} : ∀ {l₁ : List α} {l₂ : List β}, Paired F l₁ l₂ → (∀ a b, F a b → G a b) → Paired G l₁ l₂
  | _, _, .nil, _ => .nil
  | _, _, .cons r t, f => .cons (f _ _ r) (Paired.mapP t f)
/-- what an object's description leans on: its own object, its own dict, the tuples -/
theorem ObjOk.stay (x : ObjOk P w H h a o) (k : ∀ b u, (b = a ∨ H b = some (.own a)) → h.get? b = some u → h'.get? b = some u)
    (ho : ∀ b, H b = some (.own a) → H' b = some (.own a)) (ht : ∀ b xs, H b = some (.tup xs) → H' b = some (.tup xs)) : ObjOk P w H' h' a o := by
  induction o with
  | lst xs => obtain ⟨z, its, n, r, e⟩ := x; exact ⟨z, its, n, r, k _ _ (.inl rfl) e⟩
  | tup xs => obtain ⟨z, its, r, ob, e, c⟩ := x; exact ⟨z, its, r, ob, k _ _ (.inl rfl) e, c⟩
  | dK kvs => obtain ⟨z, y, vs, r, ob, es, ep, e, c⟩ := x; exact ⟨z, y, vs, r, ob, es, ep, k _ _ (.inl rfl) e, c⟩
  | dT kvs =>
    obtain ⟨z, y, xs, r, ob, es, ep, e, c⟩ := x
    exact ⟨z, y, xs, Paired.mapP r fun p q z => ⟨z.1, ht _ _ z.2.1, z.2.2⟩, ob, es, ep, k _ _ (.inl rfl) e, c⟩
  | dE kvs ep =>
    obtain ⟨z, y, xs, r, ob, es, e, c⟩ := x
    exact ⟨z, y, xs, Paired.mapP r fun p q z => ⟨z.1, ht _ _ z.2.1, z.2.2⟩, ob, es, k _ _ (.inl rfl) e, c⟩
  | set S n => obtain ⟨ob, es, ep, t, e, c⟩ := x; exact ⟨ob, es, ep, t, k _ _ (.inl rfl) e, c⟩
  | ins C dx fs =>
    obtain ⟨d, z, ne, e, mA, ⟨od, es, ep, e2, c⟩, r⟩ := x
    exact ⟨ho _ d, z, ne, k _ _ (.inl rfl) e, mA, ⟨od, es, ep, k _ _ (.inr d) e2, c⟩, r⟩
  | own y => obtain ⟨ob, e⟩ := x; exact ⟨ob, k _ _ (.inl rfl) e⟩
  | xd fs => obtain ⟨mA, ⟨od, es, ep, e, c⟩, r⟩ := x; exact ⟨mA, ⟨od, es, ep, k _ _ (.inl rfl) e, c⟩, r⟩
  | rng lo hi => obtain ⟨t, u, v, e⟩ := x; exact ⟨t, u, v, k _ _ (.inl rfl) e⟩
  | frz ob u ih => obtain ⟨e, q⟩ := x; exact ⟨k _ _ (.inl rfl) e, ih q⟩
  | tbl ps =>
    have e : h.get? a = some { cls := .none, data := .fields ps } := x
    show h'.get? a = some { cls := .none, data := .fields ps }
    exact k a _ (.inl rfl) e
  | met f y =>
    have e : h.get? a = some (PySem.W.methodObj (.ref f) (.ref y)) := x
    show h'.get? a = some (PySem.W.methodObj (.ref f) (.ref y))
    exact k a _ (.inl rfl) e
  | ext φ => obtain ⟨p, ⟨o, e⟩, st⟩ := x; exact ⟨st _ _ p fun o q => k _ _ (.inl rfl) q, ⟨o, k _ _ (.inl rfl) e⟩, st⟩
theorem HOk.lt (x : HOk P w H h) (e : H a = some o) : a < h.objs.size := (x a o e).lt
theorem HOk.fresh (x : HOk P w H h) (e : h.objs.size ≤ a) : H a = none := by
  cases q : H a with
  | none => rfl
  | some u => exact absurd (Nat.lt_of_lt_of_le (x.lt q) e) (Nat.lt_irrefl _)
/-- every object of the heap is kept -/
theorem HOk.kept (x : HOk P w H h) (k : ∀ b u, h.get? b = some u → h'.get? b = some u) : HOk P w H h' := fun a o e =>
  (x a o e).stay (fun b u _ q => k b u q) (fun _ q => q) fun _ _ q => q
/-- a new object is laid and tracked -/
theorem HOk.laid (x : HOk P w H h) (k : ∀ b u, h.get? b = some u → h'.get? b = some u) (hp : h.objs.size ≤ a) (new : ObjOk P w (upd H a o) h' a o) : HOk P w (upd H a o) h' := fun b u e => by
  have hn := x.fresh hp
  by_cases hb : b = a
  · subst hb; rw [upd_same] at e; cases e; exact new
  · rw [upd_ne hb] at e
    exact (x b u e).stay (fun c v _ q => k c v q) (fun c q => by rw [upd_ne (ne_of_none q hn)]; exact q) fun c xs q => by rw [upd_ne (ne_of_none q hn)]; exact q
end

/-- what may be read as u: it is u, or a known u -/
def Rd (H : Hp) (a : Addr) (u : HO) : Prop := H a = some u ∨ ∃ o, H a = some (.frz o u)
theorem Rd.of {H : Hp} {a : Addr} {u : HO} (h : H a = some u) : Rd H a u := .inl h
theorem Rd.ok {P : Program} {w : World} {H : Hp} {h : Heap} {a : Addr} {u : HO} (r : Rd H a u) (x : HOk P w H h) : ObjOk P w H h a u := by
  rcases r with r | ⟨o, r⟩
  · exact x a u r
  · obtain ⟨_, q⟩ := x a _ r
    exact q
/-- what may be written -/
def Mut : Option HO → Prop
  | some (.lst _) => True
  | some (.dK _) => True
  | some (.dT _) => True
  | some (.dE _ _) => True
  | some (.set _ _) => True
  | some (.ins _ _ _) => True
  | some (.ext _) => True
  | _ => False
section
variable {P : Program} {w : World} {H : Hp} {h h' : Heap} {x e : Addr} {o' : HO}
/-- the object at e is changed: x itself, or the dict of the instance x -/
theorem HOk.write (ok : HOk P w H h) (mu : Mut (H x)) (he : e = x ∨ H e = some (.own x)) (k : ∀ b u, b ≠ e → h.get? b = some u → h'.get? b = some u) (heo : ∃ u, h'.get? e = some u)
    (new : ObjOk P w (upd H x o') h' x o') : HOk P w (upd H x o') h' := fun b u q => by
  have nown : ∀ c y, H c = some (.own y) → c ≠ x := fun c y r z => by subst z; rw [r] at mu; exact mu
  have ntup : ∀ c xs, H c = some (.tup xs) → c ≠ x := fun c xs r z => by subst z; rw [r] at mu; exact mu
  by_cases hb : b = x
  · subst hb; rw [upd_same] at q; cases q; exact new
  · rw [upd_ne hb] at q
    by_cases hbe : b = e
    · have q' : H b = some (.own x) := by
        rcases he with z | z
        · exact absurd (hbe.trans z) hb
        · rw [hbe]; exact z
      rw [q] at q'; cases q'
      obtain ⟨v, hv⟩ := heo
      exact ⟨v, by rw [hbe]; exact hv⟩
    · refine (ok b u q).stay (fun c v hc r => k c v ?_ r) (fun c r => by rw [upd_ne (nown c b r)]; exact r) fun c xs r => by rw [upd_ne (ntup c xs r)]; exact r
      rcases hc with rfl | hc
      · exact hbe
      · rintro rfl
        rcases he with z | z
        · exact nown c b hc z
        · rw [hc] at z; cases z; exact hb rfl
end

/-! ### kept unless tracked; of the frames at fs (the callers') the slots may change (an exception that passes writes there); of the records at ex (iterators) nothing is said -/
structure Un (fs ex : List Addr) (H H' : Hp) (h h' : Heap) : Prop where
  keep : ∀ b o, h.get? b = some o → H b = none → b ∉ fs → b ∉ ex → h'.get? b = some o
  slot : ∀ b o, h.get? b = some o → H b = none → b ∈ fs → b ∉ ex → ∃ sl, h'.get? b = some { o with slots := sl }
  free : ∀ b o, h.get? b = some o → H b = none → b ∉ ex → H' b = none
  there : ∀ b o, h.get? b = some o → b ∉ ex → ∃ o', h'.get? b = some o'
  tups : ∀ b xs, H b = some (.tup xs) → H' b = some (.tup xs)
  frzs : ∀ b o u, H b = some (.frz o u) → H' b = some (.frz o u)
  tbls : ∀ b ps, H b = some (.tbl ps) → ∃ more, H' b = some (.tbl (ps ++ more))
section
variable {fs fs' ex ex' : List Addr} {H H1 H2 : Hp} {h h1 h2 h' : Heap} {a x e : Addr} {o : HO}
theorem Un.any (u : Un fs ex H H1 h h1) {b : Addr} {ob : Obj} (q : h.get? b = some ob) (n : H b = none) (hx : b ∉ ex) : ∃ sl, h1.get? b = some { ob with slots := sl } := by
  by_cases hb : b ∈ fs
  · exact u.slot b ob q n hb hx
  · exact ⟨ob.slots, u.keep b ob q n hb hx⟩
theorem Un.trans (a : Un fs ex H H1 h h1) (b : Un fs ex H1 H2 h1 h2) : Un fs ex H H2 h h2 where
  keep := fun c ob q n hc hx => b.keep c ob (a.keep c ob q n hc hx) (a.free c ob q n hx) hc hx
  slot := fun c ob q n hc hx => by
    obtain ⟨sl, e1⟩ := a.slot c ob q n hc hx
    obtain ⟨sl', e2⟩ := b.slot c _ e1 (a.free c ob q n hx) hc hx
    exact ⟨sl', e2⟩
  free := fun c ob q n hx => by
    obtain ⟨o', e1⟩ := a.there c ob q hx
    exact b.free c o' e1 (a.free c ob q n hx) hx
  there := fun c ob q hx => by
    obtain ⟨o', e1⟩ := a.there c ob q hx
    exact b.there c o' e1 hx
  tups := fun c xs q => b.tups c xs (a.tups c xs q)
  frzs := fun c ob xs q => b.frzs c ob xs (a.frzs c ob xs q)
  tbls := fun c ps q => by
    obtain ⟨m1, e1⟩ := a.tbls c ps q
    obtain ⟨m2, e2⟩ := b.tbls c _ e1
    exact ⟨m1 ++ m2, by rw [e2, Array.append_assoc]⟩
theorem Un.kept (k : ∀ b u, h.get? b = some u → h'.get? b = some u) : Un fs ex H H h h' :=
  ⟨fun b ob q _ _ _ => k b ob q, fun b ob q _ _ _ => ⟨ob.slots, k b ob q⟩, fun _ _ _ n _ => n, fun b ob q _ => ⟨ob, k b ob q⟩, fun _ _ q => q, fun _ _ _ q => q, fun _ ps q => ⟨#[], by rw [q]; simp⟩⟩
theorem Un.refl : Un fs ex H H h h := Un.kept fun _ _ q => q
theorem Un.laid (k : ∀ b u, h.get? b = some u → h'.get? b = some u) (hp : h.objs.size ≤ a) (hn : H a = none) : Un fs ex H (upd H a o) h h' where
  keep := fun b u q _ _ _ => k b u q
  slot := fun b u q _ _ _ => ⟨u.slots, k b u q⟩
  free := fun b u q n _ => by rw [upd_ne (Nat.ne_of_lt (Nat.lt_of_lt_of_le (Heap.lt_size q) hp))]; exact n
  there := fun b u q _ => ⟨u, k b u q⟩
  tups := fun b xs q => by rw [upd_ne (ne_of_none q hn)]; exact q
  frzs := fun b u xs q => by rw [upd_ne (ne_of_none q hn)]; exact q
  tbls := fun b ps q => ⟨#[], by rw [upd_ne (ne_of_none q hn), q]; simp⟩
theorem Un.write (mu : Mut (H x)) (he : e = x ∨ H e = some (.own x)) (k : ∀ b u, b ≠ e → h.get? b = some u → h'.get? b = some u) (heo : ∃ u, h'.get? e = some u) : Un fs ex H (upd H x o) h h' := by
  have hx : ∀ b, H b = none → b ≠ x := fun b n z => by subst z; rw [n] at mu; exact mu
  have hb : ∀ b, H b = none → b ≠ e := fun b n z => by
    subst z
    rcases he with r | r
    · exact hx b n r
    · rw [n] at r; cases r
  have hm : ∀ b u, H b = some u → ¬ Mut (some u) → b ≠ x := fun b u q nm z => by subst z; rw [q] at mu; exact nm mu
  refine ⟨fun b u q n _ _ => k b u (hb b n) q, fun b u q n _ _ => ⟨u.slots, k b u (hb b n) q⟩, fun b u q n _ => by rw [upd_ne (hx b n)]; exact n, fun b u q _ => ?_,
    fun b xs q => by rw [upd_ne (hm b _ q fun z => z)]; exact q, fun b u xs q => by rw [upd_ne (hm b _ q fun z => z)]; exact q, fun b ps q => ⟨#[], by rw [upd_ne (hm b _ q fun z => z), q]; simp⟩⟩
  by_cases hbe : b = e
  · subst hbe; exact heo
  · exact ⟨u, k b u hbe q⟩
theorem Un.mono (u : Un fs ex H H1 h h1) (hs : ∀ b ∈ fs, b ∈ fs') (hx : ∀ b ∈ ex, b ∈ ex') : Un fs' ex' H H1 h h1 :=
  ⟨fun b ob q n hb he => u.keep b ob q n (fun z => hb (hs b z)) fun z => he (hx b z), fun _ _ q n _ he => u.any q n fun z => he (hx _ z), fun b ob q n he => u.free b ob q n fun z => he (hx b z), fun b ob q he => u.there b ob q fun z => he (hx b z), u.tups, u.frzs, u.tbls⟩
end

/-! ### the heap without what is tracked -/
def trk (h : Heap) (H : Hp) : List Addr := (List.range h.objs.size).filter fun a => (H a).isSome
def hidT (h : Heap) (H : Hp) : Heap := PySem.W.hideAll h (trk h H)
theorem hidT_size (h : Heap) (H : Hp) : (hidT h H).objs.size = h.objs.size := PySem.W.hideAll_size _ _
theorem hidT_get {h : Heap} {H : Hp} {b : Addr} {o : Obj} (e : h.get? b = some o) (n : H b = none) : (hidT h H).get? b = some o :=
  PySem.W.hideAll_get _ e fun hm => by
    have q : (H b).isSome = true := (List.mem_filter.mp hm).2
    rw [n] at q; simp at q
theorem of_hidT {h : Heap} {H : Hp} {b : Addr} {o : Obj} (e : (hidT h H).get? b = some o) : h.get? b = some o ∧ H b = none := by
  have e' : h.get? b = some o := PySem.W.of_hideAll (trk h H) e
  refine ⟨e', ?_⟩
  cases q : H b with
  | none => rfl
  | some x =>
    have hm : b ∈ trk h H := List.mem_filter.mpr ⟨List.mem_range.mpr (Heap.lt_size e'), by simp [q]⟩
    have z : (hidT h H).get? b = none := PySem.W.hideAll_none (trk h H) hm
    rw [z] at e; cases e

/-! ### OpenK's ledger, filled with every new object but one -/
def allNews (g h : Heap) (L : Addr) : List (Addr × Obj) := (List.range h.objs.size).filterMap fun a => if a = L ∨ (g.get? a).isSome = true then none else (h.get? a).map fun o => (a, o)
def rest (g h : Heap) (L d : Addr) : List (Addr × Obj) := (allNews g h L).filter fun p => decide (p.1 ≠ d)
end L2

namespace L2
open PySem PySem.Spec PyProof.Rows

/-- the module's facts, over the base: the heap at the law's entry without what is tracked there -/
structure Mod (K : PySem.W.Frag) (mg : Str → Option Value) (base : Heap) : Prop where
  kin : K.In base
  glob : base.Ns mainGlobals mg
  blt : ∃ mb, base.Ns builtinsNs mb ∧ ∀ x : Str, x ≠ "__name__" → mb x = bootBuiltins x
  nolimit : base.NoLimit

/-- the context: a def's body (or a comprehension's block) running. base: fixed through the whole law; s₀, H₀: the entry; outer: the frames whose slots others may change (a def's callers); stack: all frames that run;
   ex: iterators that were made ahead of the entry and are walked here (a comprehension's); fn: the names whose cells were made at the entry (a def: all; a comprehension's block: its own); calm: not within an except suite; pn: pins that every state bears; xe: what is wanted of an exception that leaves the code -/
structure Cx where
  prog : Program
  w : World
  K : PySem.W.Frag
  mg : Str → Option Value
  base : Heap
  A : Around
  N : List Str
  s₀ : Shared
  H₀ : Hp
  env : Env
  outer : List Env
  stack : List Env
  ex : List Addr
  fn : Str → Bool
  calm : Bool
  pn : List (Addr × Obj)
  xe : Value → Shared → Prop
/-- the callers' frames -/
def frs (l : List Env) : List Addr := l.filterMap (·.frame)
abbrev Cx.fs (X : Cx) : List Addr := frs X.outer

def Vis (sc : Scope) (x : Str) : Prop := sc.names.lookup x = some .local ∨ sc.names.lookup x = some .cell ∨ sc.names.lookup x = some .free
def Loc (sc : Scope) (x : Str) : Prop := sc.names.lookup x = some .local ∨ sc.names.lookup x = some .cell
def Look (env : Env) (h : Heap) (m : Str → Option Value) (x : Str) (u : Value) : Prop :=
  (env.kindOf x = some .local ∧ m x = some u) ∨ ((env.kindOf x = some .cell ∨ env.kindOf x = some .free) ∧ ∃ c, env.cells.lookup x = some c ∧ h.IsCell c (some u))

structure Cx.Ok (X : Cx) : Prop where
  mod : Mod X.K X.mg X.base
  kind : X.env.scope.kind = .function
  glob : X.env.globals = mainGlobals
  blt : X.env.builtins = builtinsNs
  above : X.s₀.heap.objs.size ≤ X.env.locals
  inj : ∀ x y c, X.env.cells.lookup x = some c → X.env.cells.lookup y = some c → x = y
  has : ∀ x, (X.env.kindOf x = some .cell ∨ X.env.kindOf x = some .free) → ∃ c, X.env.cells.lookup x = some c
  cab : ∀ x c, X.fn x = true → X.env.cells.lookup x = some c → X.s₀.heap.objs.size ≤ c
  hd : X.calm = true → X.A.handled = none
  frames : X.A.frames = some X.stack
  stk : X.stack = X.outer ∨ (X.stack = X.env :: X.outer ∧ X.env.frame = some X.env.locals)
  exf : ∀ b ∈ X.ex, b ≠ X.env.locals ∧ ∀ x c, X.env.cells.lookup x = some c → c ≠ b
  bs : ∀ b o, X.base.get? b = some o → X.s₀.heap.get? b = some o ∧ X.H₀ b = none
  bsz : X.base.objs.size ≤ X.s₀.heap.objs.size
  noex : ∀ b o, X.base.get? b = some o → b ∉ X.ex
  exfs : ∀ b ∈ X.ex, b ∉ X.fs
  funs : X.s₀.heap.FunFrames X.base X.outer
  frf : ∀ b ∈ X.fs, X.H₀ b = none

structure Inv (X : Cx) (pins : List (Addr × Obj)) (σ : List (Option V)) (H : Hp) (s : Shared) : Prop where
  ok : X.Ok
  os : s.os = X.s₀.os
  bare : AllBare s.gens
  base : Un X.fs X.ex X.H₀ H X.s₀.heap s.heap
  loc : ∃ m, s.heap.Ns X.env.locals m ∧ ∀ (i : Nat) (x : Str) (v : V), X.N[i]? = some x → σ[i]? = some (some v) → Vis X.env.scope x → ∃ u, RelV v u ∧ Look X.env s.heap m x u
  cell : ∀ x c, X.env.cells.lookup x = some c → ∃ v, s.heap.IsCell c v
  free : H X.env.locals = none
  freeC : ∀ x c, X.env.cells.lookup x = some c → H c = none
  pin : ∀ p ∈ X.pn ++ pins, s.heap.get? p.1 = some p.2 ∧ H p.1 = none ∧ p.1 ≠ X.env.locals ∧ p.1 ∉ X.fs ∧ ∀ v, p.2.data ≠ .cell v
  hok : HOk X.prog X.w H s.heap
  len : σ.length = X.N.length

section
variable {X : Cx} {pins : List (Addr × Obj)} {σ : List (Option V)} {H H' : Hp} {s : Shared} {h' : Heap}

theorem Cx.Ok.nofr (ok : X.Ok) {b : Addr} {o : Obj} (e : X.base.get? b = some o) : b ∉ X.fs := fun hb => by
  have := (ok.funs.mem hb).1
  rw [e] at this; cases this
theorem Inv.bs (I : Inv X pins σ H s) : ∀ b o, X.base.get? b = some o → s.heap.get? b = some o ∧ H b = none := fun b o e =>
  ⟨I.base.keep b o (I.ok.bs b o e).1 (I.ok.bs b o e).2 (I.ok.nofr e) (I.ok.noex b o e), I.base.free b o (I.ok.bs b o e).1 (I.ok.bs b o e).2 (I.ok.noex b o e)⟩
theorem Inv.bk (I : Inv X pins σ H s) : ∀ b o, X.base.get? b = some o → s.heap.get? b = some o := fun b o e => (I.bs b o e).1
theorem Inv.mod (I : Inv X pins σ H s) : Mod X.K X.mg X.base := I.ok.mod
theorem Inv.kIn (I : Inv X pins σ H s) : X.K.In s.heap := I.ok.mod.kin.keeps I.bk
theorem Inv.nolimit (I : Inv X pins σ H s) : s.heap.NoLimit := I.ok.mod.nolimit.keeps I.bk
theorem Inv.lt (I : Inv X pins σ H s) : X.env.locals < s.heap.objs.size := let ⟨_, hn, _⟩ := I.loc; hn.lt
theorem Inv.sz (I : Inv X pins σ H s) : X.s₀.heap.objs.size ≤ s.heap.objs.size := Nat.le_trans I.ok.above (Nat.le_of_lt I.lt)
theorem Inv.nofs (I : Inv X pins σ H s) {a : Addr} (h : s.heap.objs.size ≤ a) : a ∉ X.fs := fun hb => by
  obtain ⟨_, o, ho, _⟩ := I.ok.funs.mem hb
  exact absurd (Nat.lt_of_lt_of_le (Heap.lt_size ho) (Nat.le_trans I.sz h)) (Nat.lt_irrefl _)
theorem Inv.cne (I : Inv X pins σ H s) : ∀ x c, X.env.cells.lookup x = some c → c ≠ X.env.locals := fun x c e z => by
  obtain ⟨v, o, ho, hd⟩ := I.cell x c e
  obtain ⟨m, ⟨o', es, ep, ho', hd', _⟩, _⟩ := I.loc
  rw [z, ho'] at ho; cases ho; rw [hd'] at hd; cases hd
theorem Inv.funs (I : Inv X pins σ H s) : s.heap.FunFrames X.base X.outer := by
  have all : ∀ (l : List Env), (∀ b ∈ frs l, b ∈ X.fs) → X.s₀.heap.FunFrames X.base l → s.heap.FunFrames X.base l := by
    intro l
    induction l with
    | nil => intro _ _; trivial
    | cons env r ih =>
      intro hs hl
      obtain ⟨hk, ⟨L, o, hf, hn, ho, hd⟩, hr⟩ := hl
      have hL : L ∈ X.fs := hs L (by unfold frs; rw [List.filterMap_cons, hf]; exact List.mem_cons_self)
      obtain ⟨sl, e⟩ := I.base.slot L o ho (I.ok.frf L hL) hL fun z => I.ok.exfs L z hL
      exact ⟨hk, ⟨L, _, hf, hn, e, hd⟩, ih (fun b hb => hs b (by unfold frs; rw [List.filterMap_cons, hf]; exact List.mem_cons_of_mem _ hb)) hr⟩
  exact all X.outer (fun _ hb => hb) I.ok.funs

/-- the frames that run, for a call -/
theorem Inv.stack (I : Inv X pins σ H s) : s.heap.FunFrames X.base X.stack := by
  rcases I.ok.stk with e | ⟨e, hf⟩
  · rw [e]; exact I.funs
  · rw [e]
    obtain ⟨m, hn, _⟩ := I.loc
    refine .cons (by rw [I.ok.kind]; decide) hf hn ?_ I.funs
    exact Heap.get?_none_of_le (Nat.le_trans I.ok.bsz I.ok.above)
theorem Inv.stkSub (I : Inv X pins σ H s) : ∀ b ∈ frs X.stack, b ∈ X.env.locals :: X.fs := fun b hb => by
  rcases I.ok.stk with e | ⟨e, hf⟩
  · rw [e] at hb; exact List.mem_cons_of_mem _ hb
  · rw [e] at hb
    unfold frs at hb
    rw [List.filterMap_cons, hf] at hb
    exact hb
theorem Inv.stkFree (I : Inv X pins σ H s) : ∀ b ∈ frs X.stack, H b = none := fun b hb => by
  rcases List.mem_cons.mp (I.stkSub b hb) with e | hb
  · rw [e]; exact I.free
  · obtain ⟨_, o, ho, _⟩ := I.ok.funs.mem hb
    exact I.base.free b o ho (I.ok.frf b hb) fun z => I.ok.exfs b z hb

/-- THE STEP: the untracked objects but the frame and the records at ch are kept (the callers' frames up to slots), the frame's map is kept, the new abstract heap is held -/
theorem Inv.step {g' : Array GenState} {t' : Nat} {d' : Drawn} {ch : List Addr} (I : Inv X pins σ H s)
    (hch : ∀ b ∈ ch, (b ∈ X.ex ∨ X.s₀.heap.objs.size ≤ b) ∧ b ≠ X.env.locals ∧ (∀ x c, X.env.cells.lookup x = some c → c ≠ b) ∧ ∀ p ∈ X.pn ++ pins, p.1 ≠ b)
    (keep : ∀ b o, b ≠ X.env.locals → b ∉ X.fs → b ∉ ch → s.heap.get? b = some o → H b = none → h'.get? b = some o)
    (slot : ∀ b o, b ≠ X.env.locals → b ∈ X.fs → b ∉ ch → s.heap.get? b = some o → H b = none → ∃ sl, h'.get? b = some { o with slots := sl }) (free : ∀ b o, b ∉ ch → s.heap.get? b = some o → H b = none → H' b = none)
    (there : ∀ b o, b ∉ ch → s.heap.get? b = some o → ∃ o', h'.get? b = some o')
    (tups : ∀ b xs, H b = some (.tup xs) → H' b = some (.tup xs)) (frzs : ∀ b o u, H b = some (.frz o u) → H' b = some (.frz o u)) (tbls : ∀ b ps, H b = some (.tbl ps) → ∃ more, H' b = some (.tbl (ps ++ more)))
    (ns : ∀ m, s.heap.Ns X.env.locals m → h'.Ns X.env.locals m) (hok : HOk X.prog X.w H' h') (hg : AllBare g') :
    Inv X pins σ H' { s with heap := h', gens := g', drawn := d', toks := t' } := by
  have neL : ∀ b o, X.s₀.heap.get? b = some o → b ≠ X.env.locals := fun b o e => Nat.ne_of_lt (Nat.lt_of_lt_of_le (Heap.lt_size e) I.ok.above)
  have neC : ∀ b o, X.s₀.heap.get? b = some o → b ∉ X.ex → b ∉ ch := fun b o e hx hb => by
    rcases (hch b hb).1 with z | z
    · exact hx z
    · exact absurd (Nat.lt_of_lt_of_le (Heap.lt_size e) z) (Nat.lt_irrefl _)
  have cellK : ∀ x c, X.env.cells.lookup x = some c → ∀ v, s.heap.IsCell c v → h'.IsCell c v := fun x c e v ⟨o, ho, hd⟩ => by
    have nch : c ∉ ch := fun z => (hch c z).2.2.1 x c e rfl
    by_cases hc : c ∈ X.fs
    · obtain ⟨sl, q⟩ := slot c o (I.cne x c e) hc nch ho (I.freeC x c e)
      exact ⟨_, q, hd⟩
    · exact ⟨o, keep c o (I.cne x c e) hc nch ho (I.freeC x c e), hd⟩
  refine ⟨I.ok, I.os, hg, ⟨fun b o e n hb hx => ?_, fun b o e n hb hx => ?_, fun b o e n hx => ?_, fun b o e hx => ?_, fun b xs e => tups b xs (I.base.tups b xs e), fun b o xs e => frzs b o xs (I.base.frzs b o xs e), fun b ps e => ?_⟩, ?_, fun x c e => ?_, ?_, fun x c e => ?_, fun p hp => ?_, hok, I.len⟩
  · exact keep b o (neL b o e) hb (neC b o e hx) (I.base.keep b o e n hb hx) (I.base.free b o e n hx)
  · obtain ⟨sl, e1⟩ := I.base.slot b o e n hb hx
    obtain ⟨sl', e2⟩ := slot b _ (neL b o e) hb (neC b o e hx) e1 (I.base.free b o e n hx)
    exact ⟨sl', e2⟩
  · obtain ⟨o', e1⟩ := I.base.there b o e hx
    exact free b o' (neC b o e hx) e1 (I.base.free b o e n hx)
  · obtain ⟨o', e1⟩ := I.base.there b o e hx
    exact there b o' (neC b o e hx) e1
  · obtain ⟨m1, e1⟩ := I.base.tbls b ps e
    obtain ⟨m2, e2⟩ := tbls b _ e1
    exact ⟨m1 ++ m2, by rw [e2, Array.append_assoc]⟩
  · obtain ⟨m, hn, hl⟩ := I.loc
    refine ⟨m, ns m hn, fun i x v e1 e2 e3 => ?_⟩
    obtain ⟨u, r, l⟩ := hl i x v e1 e2 e3
    refine ⟨u, r, ?_⟩
    rcases l with l | ⟨k, c, e, z⟩
    · exact .inl l
    · exact .inr ⟨k, c, e, cellK x c e _ z⟩
  · obtain ⟨v, z⟩ := I.cell x c e
    exact ⟨v, cellK x c e v z⟩
  · obtain ⟨m, ⟨o, _, _, ho, _⟩, _⟩ := I.loc
    exact free _ o (fun z => (hch _ z).2.1 rfl) ho I.free
  · obtain ⟨v, o, ho, hd⟩ := I.cell x c e
    exact free c o (fun z => (hch c z).2.2.1 x c e rfl) ho (I.freeC x c e)
  · obtain ⟨e, n, ne, nf, d⟩ := I.pin p hp
    have nch : p.1 ∉ ch := fun z => (hch p.1 z).2.2.2 p hp rfl
    exact ⟨keep p.1 p.2 ne nf nch e n, free p.1 p.2 nch e n, ne, nf, d⟩
/-- .. where the frame's own object is kept too -/
theorem Inv.un {t' : Nat} (I : Inv X pins σ H s) (u : Un X.fs [] H H' s.heap h') (hok : HOk X.prog X.w H' h') : Inv X pins σ H' { s with heap := h', toks := t' } := by
  obtain ⟨m, ⟨o, es, ep, ho, r⟩, _⟩ := id I.loc
  obtain ⟨sl, hL⟩ := u.any ho I.free (by simp)
  exact I.step (g' := s.gens) (d' := s.drawn) (ch := []) (fun _ z => nomatch z) (fun b o _ hb _ e n => u.keep b o e n hb (by simp)) (fun b o _ hb _ e n => u.slot b o e n hb (by simp)) (fun b o _ e n => u.free b o e n (by simp)) (fun b o _ e => u.there b o e (by simp)) u.tups u.frzs u.tbls (fun m' hm => by
    obtain ⟨o', es', ep', ho', r'⟩ := hm
    rw [ho] at ho'; cases ho'
    exact ⟨_, es', ep', hL, r'⟩) hok I.bare
/-- behind a call (or a comprehension's block): the slots of this frame may have changed too, the records at ch may have turned -/
theorem Inv.call {g' : Array GenState} {t' : Nat} {d' : Drawn} {ch : List Addr} (I : Inv X pins σ H s) (u : Un (frs X.stack) ch H H' s.heap h') (hok : HOk X.prog X.w H' h') (hg : AllBare g')
    (hch : ∀ b ∈ ch, (b ∈ X.ex ∨ X.s₀.heap.objs.size ≤ b) ∧ b ≠ X.env.locals ∧ (∀ x c, X.env.cells.lookup x = some c → c ≠ b) ∧ ∀ p ∈ X.pn ++ pins, p.1 ≠ b) :
    Inv X pins σ H' { s with heap := h', gens := g', drawn := d', toks := t' } := by
  obtain ⟨m, ⟨o, es, ep, ho, r⟩, _⟩ := id I.loc
  obtain ⟨sl, hL⟩ := u.any ho I.free fun z => (hch _ z).2.1 rfl
  exact I.step (ch := ch) hch (fun b o hL hb hc e n => u.keep b o e n (fun z => (List.mem_cons.mp (I.stkSub b z)).elim hL hb) hc) (fun b o _ _ hc e n => u.any e n hc) (fun b o hc e n => u.free b o e n hc) (fun b o hc e => u.there b o e hc) u.tups u.frzs u.tbls (fun m' hm => by
    obtain ⟨o', es', ep', ho', r'⟩ := hm
    rw [ho] at ho'; cases ho'
    exact ⟨_, es', ep', hL, r'⟩) hok hg
/-- an untracked record of ours (an iterator) has turned -/
theorem Inv.turned {t' : Nat} {it : Addr} (I : Inv X pins σ H s) (k : ∀ b o, b ≠ it → s.heap.get? b = some o → h'.get? b = some o) (hn : H it = none) (hL : it ≠ X.env.locals)
    (h1 : it ∈ X.ex ∨ X.s₀.heap.objs.size ≤ it) (h2 : ∀ x c, X.env.cells.lookup x = some c → c ≠ it) (h3 : ∀ p ∈ X.pn ++ pins, p.1 ≠ it) : Inv X pins σ H { s with heap := h', toks := t' } := by
  have nit : ∀ b u, H b = some u → b ≠ it := fun b u e z => by rw [z, hn] at e; cases e
  refine I.step (g' := s.gens) (d' := s.drawn) (ch := [it]) (fun b hb => ?_) (fun b o _ _ hc e _ => k b o (fun z => hc (by simp [z])) e) (fun b o _ _ hc e _ => ⟨o.slots, k b o (fun z => hc (by simp [z])) e⟩) (fun _ _ _ _ n => n)
    (fun b o hc e => ⟨o, k b o (fun z => hc (by simp [z])) e⟩) (fun _ _ e => e) (fun _ _ _ e => e) (fun b ps e => ⟨#[], by rw [e]; simp⟩) (fun m hm => ?_) (fun b u e => ?_) I.bare
  · have e : b = it := by simpa using hb
    subst e
    exact ⟨h1, hL, h2, h3⟩
  · obtain ⟨o, es, ep, ho, r⟩ := hm
    exact ⟨o, es, ep, k _ o (Ne.symm hL) ho, r⟩
  · refine (I.hok b u e).stay (fun c v hc q => k c v ?_ q) (fun _ q => q) fun _ _ q => q
    rcases hc with z | z
    · rw [z]; exact nit b u e
    · exact nit c _ z
theorem Inv.tok (I : Inv X pins σ H s) (t : Nat) : Inv X pins σ H { s with toks := t } := I.un (h' := s.heap) (t' := t) Un.refl I.hok
/-- all objects kept -/
theorem Inv.kept {t' : Nat} (I : Inv X pins σ H s) (k : ∀ b u, s.heap.get? b = some u → h'.get? b = some u) : Inv X pins σ H { s with heap := h', toks := t' } := I.un (Un.kept k) (I.hok.kept k)
/-- a new object laid and tracked -/
theorem Inv.laid {a : Addr} {o : HO} {t' : Nat} (I : Inv X pins σ H s) (k : ∀ b u, s.heap.get? b = some u → h'.get? b = some u) (hp : s.heap.objs.size ≤ a) (new : ObjOk X.prog X.w (upd H a o) h' a o) :
    Inv X pins σ (upd H a o) { s with heap := h', toks := t' } := I.un (Un.laid k hp (I.hok.fresh hp)) (I.hok.laid k hp new)
/-- an object written -/
theorem Inv.write {x e : Addr} {o : HO} {t' : Nat} (I : Inv X pins σ H s) (mu : Mut (H x)) (he : e = x ∨ H e = some (.own x)) (k : ∀ b u, b ≠ e → s.heap.get? b = some u → h'.get? b = some u) (heo : ∃ u, h'.get? e = some u)
    (new : ObjOk X.prog X.w (upd H x o) h' x o) : Inv X pins σ (upd H x o) { s with heap := h', toks := t' } := I.un (Un.write mu he k heo) (I.hok.write mu he k heo new)
/-- forgetting slots, pins -/
theorem Inv.weak {σ' : List (Option V)} (I : Inv X pins σ H s) (hl : σ'.length = σ.length) (w : ∀ (i : Nat) v, σ'[i]? = some (some v) → σ[i]? = some (some v)) : Inv X pins σ' H s :=
  ⟨I.ok, I.os, I.bare, I.base, let ⟨m, hn, hl'⟩ := I.loc; ⟨m, hn, fun i x v e1 e2 e3 => hl' i x v e1 (w i v e2) e3⟩, I.cell, I.free, I.freeC, I.pin, I.hok, hl.trans I.len⟩
theorem Inv.pins_of {pins' : List (Addr × Obj)} (I : Inv X pins σ H s) (h : ∀ p ∈ pins', s.heap.get? p.1 = some p.2 ∧ H p.1 = none ∧ p.1 ≠ X.env.locals ∧ p.1 ∉ X.fs ∧ ∀ v, p.2.data ≠ .cell v) : Inv X pins' σ H s :=
  ⟨I.ok, I.os, I.bare, I.base, I.loc, I.cell, I.free, I.freeC, fun p hp => (List.mem_append.mp hp).elim (fun z => I.pin p (List.mem_append_left _ z)) (h p), I.hok, I.len⟩

theorem nodup_ix {N : List Str} (hN : N.Nodup) {i j : Nat} {x : Str} (a : N[i]? = some x) (b : N[j]? = some x) : i = j := by
  obtain ⟨h1, e1⟩ := List.getElem?_eq_some_iff.mp a
  obtain ⟨h2, e2⟩ := List.getElem?_eq_some_iff.mp b
  exact (List.getElem_inj hN).mp (e1.trans e2.symm)

/-- a name is stored; what changed -/
theorem store_ok2 {M : Model} {A : Around} {E : Value → Shared → Prop} {i : Nat} {x : Str} {v : V} {u : Value} {Q : Unit → Shared → Prop} (I : Inv X pins σ H s) (hN : X.N.Nodup) (hi : X.N[i]? = some x) (hx : Loc X.env.scope x) (r : RelV v u)
    (h : ∀ s', Inv X pins (σ.set i (some v)) H s' → (∃ a, Heap.SameBut a s.heap s'.heap ∧ (a = X.env.locals ∨ X.env.cells.lookup x = some a)) → Q () s') (hf : X.fn x = true ∨ X.env.scope.names.lookup x = some .local := by first | exact .inl rfl | exact .inr rfl | assumption) : wpAny M A (storeName X.env x u) Q E s := by
  obtain ⟨m, hn, hl⟩ := id I.loc
  have hcls : (X.env.scope.kind == .class || (X.env.scope.kind == .module && X.env.locals != X.env.globals)) = false := by rw [I.ok.kind]; rfl
  have hiσ : i < σ.length := by rw [I.len]; exact (List.getElem?_eq_some_iff.mp hi).1
  have cne := I.cne
  have tracked : ∀ {a : Addr} {h' : Heap}, (∃ o, s.heap.get? a = some o ∧ H a = none) → Heap.SameBut a s.heap h' → HOk X.prog X.w H h' := fun {a h'} ha hs b ob e => by
    obtain ⟨_, _, hfree⟩ := ha
    refine (I.hok b ob e).stay (fun c w' hc q => (hs.2 c ?_).trans q) (fun _ q => q) fun _ _ q => q
    rintro rfl
    rcases hc with rfl | hc
    · rw [hfree] at e; cases e
    · rw [hfree] at hc; cases hc
  rcases hx with hk | hk
  · refine wpAny_storeName_local hk hn (fun h' hn' hs => ?_) hcls
    obtain ⟨oL, _, _, hoL, _⟩ := id hn
    refine h _ ⟨I.ok, I.os, I.bare, ⟨fun b o e n hb hx => ?_, fun b o e n hb hx => ?_, I.base.free, fun b o e hx => ?_, I.base.tups, I.base.frzs, I.base.tbls⟩, ⟨_, hn', fun j y v' e1 e2 e3 => ?_⟩, fun y c e => ?_, I.free, I.freeC, fun p hp => ?_, tracked ⟨oL, hoL, I.free⟩ hs, by simpa using I.len⟩ ⟨_, hs, .inl rfl⟩
    · exact (hs.2 b (Nat.ne_of_lt (Nat.lt_of_lt_of_le (Heap.lt_size e) I.ok.above))).trans (I.base.keep b o e n hb hx)
    · obtain ⟨sl, e1⟩ := I.base.slot b o e n hb hx
      exact ⟨sl, (hs.2 b (Nat.ne_of_lt (Nat.lt_of_lt_of_le (Heap.lt_size e) I.ok.above))).trans e1⟩
    · obtain ⟨o', e1⟩ := I.base.there b o e hx
      exact ⟨o', (hs.2 b (Nat.ne_of_lt (Nat.lt_of_lt_of_le (Heap.lt_size e) I.ok.above))).trans e1⟩
    · by_cases hj : j = i
      · subst hj
        rw [hi] at e1; cases e1
        rw [List.getElem?_set_self hiσ] at e2
        cases e2
        exact ⟨u, r, .inl ⟨hk, by simp⟩⟩
      · rw [List.getElem?_set_ne (Ne.symm hj)] at e2
        obtain ⟨u', r', q⟩ := hl j y v' e1 e2 e3
        refine ⟨u', r', ?_⟩
        rcases q with ⟨k, e⟩ | ⟨k, c, e, z⟩
        · refine .inl ⟨k, ?_⟩
          have : y ≠ x := fun e => hj (nodup_ix hN e1 (e ▸ hi))
          simp [this, e]
        · exact .inr ⟨k, c, e, z.sameBut hs (cne y c e)⟩
    · obtain ⟨w', z⟩ := I.cell y c e
      exact ⟨w', z.sameBut hs (cne y c e)⟩
    · obtain ⟨e, n, ne, nf, d⟩ := I.pin p hp
      exact ⟨(hs.2 p.1 ne).trans e, n, ne, nf, d⟩
  · have hfn : X.fn x = true := by
      rcases hf with z | z
      · exact z
      · rw [z] at hk; cases hk
    obtain ⟨c, hc⟩ := I.ok.has x (.inl hk)
    obtain ⟨w', z⟩ := I.cell x c hc
    refine wpAny_storeName_cell I.ok.kind hk hc z (fun h' hc' hs => ?_)
    obtain ⟨oc, hoc, hocd⟩ := id z
    refine h { s with heap := h' } ⟨I.ok, I.os, I.bare, ⟨fun b o e n hb hx => ?_, fun b o e n hb hx => ?_, I.base.free, fun b o e hx => ?_, I.base.tups, I.base.frzs, I.base.tbls⟩, ⟨m, hn.sameBut hs (Ne.symm (cne x c hc)), fun j y v' e1 e2 e3 => ?_⟩, fun y c' e => ?_, I.free, I.freeC, fun p hp => ?_, tracked ⟨oc, hoc, I.freeC x c hc⟩ hs, by simpa using I.len⟩ ⟨c, hs, .inr hc⟩
    · exact (hs.2 b (Nat.ne_of_lt (Nat.lt_of_lt_of_le (Heap.lt_size e) (I.ok.cab x c hfn hc)))).trans (I.base.keep b o e n hb hx)
    · obtain ⟨sl, e1⟩ := I.base.slot b o e n hb hx
      exact ⟨sl, (hs.2 b (Nat.ne_of_lt (Nat.lt_of_lt_of_le (Heap.lt_size e) (I.ok.cab x c hfn hc)))).trans e1⟩
    · obtain ⟨o', e1⟩ := I.base.there b o e hx
      exact ⟨o', (hs.2 b (Nat.ne_of_lt (Nat.lt_of_lt_of_le (Heap.lt_size e) (I.ok.cab x c hfn hc)))).trans e1⟩
    · by_cases hj : j = i
      · subst hj
        rw [hi] at e1; cases e1
        rw [List.getElem?_set_self hiσ] at e2
        cases e2
        exact ⟨u, r, .inr ⟨.inl hk, c, hc, hc'⟩⟩
      · rw [List.getElem?_set_ne (Ne.symm hj)] at e2
        obtain ⟨u', r', q⟩ := hl j y v' e1 e2 e3
        refine ⟨u', r', ?_⟩
        rcases q with q | ⟨k, c', e, z'⟩
        · exact .inl q
        · refine .inr ⟨k, c', e, z'.sameBut hs ?_⟩
          rintro rfl
          exact hj (nodup_ix hN e1 (I.ok.inj _ _ _ e hc ▸ hi))
    · by_cases hcc : c' = c
      · subst hcc; exact ⟨_, hc'⟩
      · obtain ⟨w2, z2⟩ := I.cell y c' e
        exact ⟨w2, z2.sameBut hs hcc⟩
    · obtain ⟨e, n, ne, nf, d⟩ := I.pin p hp
      refine ⟨(hs.2 p.1 ?_).trans e, n, ne, nf, d⟩
      intro q
      rw [q, hoc] at e
      have q' : oc = p.2 := Option.some.inj e
      exact d w' (by rw [← q']; exact hocd)
theorem store_ok {M : Model} {A : Around} {E : Value → Shared → Prop} {i : Nat} {x : Str} {v : V} {u : Value} {Q : Unit → Shared → Prop} (I : Inv X pins σ H s) (hN : X.N.Nodup) (hi : X.N[i]? = some x) (hx : Loc X.env.scope x) (r : RelV v u)
    (h : ∀ s', Inv X pins (σ.set i (some v)) H s' → Q () s') (hf : X.fn x = true ∨ X.env.scope.names.lookup x = some .local := by first | exact .inl rfl | exact .inr rfl | assumption) : wpAny M A (storeName X.env x u) Q E s :=
  store_ok2 I hN hi hx r (fun s' I' _ => h s' I') hf
/-- behind a call or a block, the state as it is -/
theorem Inv.call' {s' : Shared} {ch : List Addr} (I : Inv X pins σ H s) (ho : s'.os = s.os) (u : Un (frs X.stack) ch H H' s.heap s'.heap) (hok : HOk X.prog X.w H' s'.heap) (hg : AllBare s'.gens)
    (hch : ∀ b ∈ ch, (b ∈ X.ex ∨ X.s₀.heap.objs.size ≤ b) ∧ b ≠ X.env.locals ∧ (∀ x c, X.env.cells.lookup x = some c → c ≠ b) ∧ ∀ p ∈ X.pn ++ pins, p.1 ≠ b) : Inv X pins σ H' s' := by
  obtain ⟨h', g', d', t', o'⟩ := s'
  have e : o' = s.os := ho
  subst e
  exact I.call (g' := g') (t' := t') (d' := d') u hok hg hch
end

/-! ### the judgements -/
/-- an exception: its class, its own dict's address (where it has one), the abstract heap behind it -/
abbrev XK := Value → Option Addr → Hp → Prop
abbrev St := List (Option V)
abbrev VK := V → Hp → Prop
/-- an expression's reading; a test's; an argument list's -/
abbrev TE := St → Hp → VK → Prop
abbrev TT := St → Hp → (Bool → Hp → Prop) → Prop
abbrev TA := St → Hp → (List V → Hp → Prop) → Prop
/-- what is wanted behind a statement -/
structure Ends where
  nx : St → Hp → Prop
  rt : VK
  bk : St → Hp → Prop := fun _ _ => False
  ct : St → Hp → Prop := fun _ _ => False
abbrev TS := Ends → St → Hp → Prop

def EP (X : Cx) (pins : List (Addr × Obj)) (σ : St) (Q : VK) (u : Value) (s' : Shared) : Prop := ∃ v H', Inv X pins σ H' s' ∧ RelV v u ∧ Q v H'
def TP (X : Cx) (pins : List (Addr × Obj)) (σ : St) (Q : Bool → Hp → Prop) (b : Bool) (s' : Shared) : Prop := ∃ H', Inv X pins σ H' s' ∧ Q b H'
def AP (X : Cx) (pins : List (Addr × Obj)) (σ : St) (Q : List V → Hp → Prop) (us : List Value) (s' : Shared) : Prop := ∃ vs H', Inv X pins σ H' s' ∧ Vals vs us ∧ Q vs H'
def SP (X : Cx) (pins : List (Addr × Obj)) (D : Ends) (f : Flow) (s' : Shared) : Prop :=
  match f with
  | .next => ∃ σ' H', Inv X pins σ' H' s' ∧ D.nx σ' H'
  | .brk => ∃ σ' H', Inv X pins σ' H' s' ∧ D.bk σ' H'
  | .cont => ∃ σ' H', Inv X pins σ' H' s' ∧ D.ct σ' H'
  | .ret u => ∃ v σ' H', Inv X pins σ' H' s' ∧ RelV v u ∧ D.rt v H'

def PE (X : Cx) (e : Expr) (t : TE) : Prop :=
  ∀ (pins : List (Addr × Obj)) (s : Shared) (σ : St) (H : Hp) (Q : VK), Inv X pins σ H s → t σ H Q → wpAny (model X.prog X.w) X.A (eval e X.env) (EP X pins σ Q) X.xe s
def PT (X : Cx) (e : Expr) (t : TT) : Prop :=
  ∀ (pins : List (Addr × Obj)) (s : Shared) (σ : St) (H : Hp) (Q : Bool → Hp → Prop), Inv X pins σ H s → t σ H Q → wpAny (model X.prog X.w) X.A (isTrue e X.env (eval e X.env)) (TP X pins σ Q) X.xe s
/-- a test whatever its 'whole' is (and, or) -/
def PW (X : Cx) (e : Expr) (t : TT) : Prop :=
  ∀ (whole : Sem Value) (pins : List (Addr × Obj)) (s : Shared) (σ : St) (H : Hp) (Q : Bool → Hp → Prop), Inv X pins σ H s → t σ H Q → wpAny (model X.prog X.w) X.A (isTrue e X.env whole) (TP X pins σ Q) X.xe s
theorem PW.pt {X : Cx} {e : Expr} {t : TT} (h : PW X e t) : PT X e t := h _
/-- an argument list (no star), from the left -/
def PA (X : Cx) (es : List Expr) (t : TA) : Prop :=
  ∀ (pos : Pos) (pins : List (Addr × Obj)) (s : Shared) (σ : St) (H : Hp) (Q : List V → Hp → Prop), Inv X pins σ H s → t σ H Q → wpAny (model X.prog X.w) X.A (spliced (backTo pos (starEach es X.env))) (AP X pins σ Q) X.xe s
def PS (X : Cx) (st : Stmt) (t : TS) : Prop :=
  ∀ (pins : List (Addr × Obj)) (s : Shared) (σ : St) (H : Hp) (D : Ends), Inv X pins σ H s → t D σ H → wpAny (model X.prog X.w) X.A (exec st X.env) (SP X pins D) X.xe s
def PSs (X : Cx) (st : List Stmt) (t : TS) : Prop :=
  ∀ (pins : List (Addr × Obj)) (s : Shared) (σ : St) (H : Hp) (D : Ends), Inv X pins σ H s → t D σ H → wpAny (model X.prog X.w) X.A (execs st X.env) (SP X pins D) X.xe s
/-- weaken the end -/
theorem thn {α : Type} {t : Sem α} {Q Q' : α → Shared → Prop} {M : Model} {A : Around} {E : Value → Shared → Prop} {s : Shared} (h : wpAny M A t Q E s) (hQ : ∀ a s, Q a s → Q' a s) : wpAny M A t Q' E s := wpAny_mono h hQ fun _ _ x => x
end L2

namespace L2
open PySem PySem.Spec PyProof.Rows
section
variable {X : Cx}

/-- two expressions in a row -/
theorem bin {a b : Expr} {ta tb : TE} (ha : PE X a ta) (hb : PE X b tb) {pins : List (Addr × Obj)} {s : Shared} {σ : St} {H : Hp} {R : V → V → Hp → Prop} (I : Inv X pins σ H s) (h : ta σ H fun x H1 => tb σ H1 fun y H2 => R x y H2)
    {α : Type} {Q : α → Shared → Prop} {f : Value → Value → Sem α}
    (hf : ∀ v u s2 x y H2, Inv X pins σ H2 s2 → RelV x v → RelV y u → R x y H2 → wpAny (model X.prog X.w) X.A (f v u) Q X.xe s2) :
    wpAny (model X.prog X.w) X.A (eval a X.env) (fun v s₁ => wpAny (model X.prog X.w) X.A (eval b X.env) (fun u s₂ => wpAny (model X.prog X.w) X.A (f v u) Q X.xe s₂) X.xe s₁) X.xe s := by
  refine thn (ha pins s σ H _ I h) fun v s1 ⟨x, H1, I1, r1, q1⟩ => ?_
  refine thn (hb pins s1 σ H1 _ I1 q1) fun u s2 ⟨y, H2, I2, r2, q2⟩ => ?_
  exact hf v u s2 x y H2 I2 r1 r2 q2

/-! ### names and constants -/
def tVar (i : Nat) : TE := fun σ H Q => ∃ v, σ[i]? = some (some v) ∧ Q v H
def tC (v : V) : TE := fun _ H Q => Q v H
theorem pe_var {i : Nat} {x : Str} {pos : Pos} (hN : X.N[i]? = some x) (hv : Vis X.env.scope x) (hd : (x == ("__debug__" : Str)) = false := by decide) (hcd : (x == ("__classdict__" : Str)) = false := by decide) : PE X (.Name x pos) (tVar i) := by
  intro pins s σ H Q I h
  obtain ⟨v, e, h⟩ := h
  obtain ⟨m, hn, hl⟩ := I.loc
  obtain ⟨u, r, l⟩ := hl i x v hN e hv
  have fin : EP X pins σ Q u s := ⟨v, H, I, r, h⟩
  rcases l with ⟨hk, hm⟩ | ⟨hk, c, hc, hcell⟩
  · exact wpAny_Name (wpAny_loadName_local I.ok.kind hk hn hm fin) hd
  · rcases hk with hk | hk
    · exact wpAny_Name (wpAny_loadName_cell I.ok.kind hk hc hcell fin) hd
    · exact wpAny_Name (wpAny_loadName_free I.ok.kind hk hc hcell fin hcd) hd
theorem pe_int {i j pos} : PE X (.Constant (.int i) j pos) (tC (.int i)) := fun _ _ _ H _ I h => wpAny_Constant_int ⟨.int i, H, I.tok _, ⟨_, rfl⟩, h⟩
theorem pe_bl {b j pos} : PE X (.Constant (.bool b) j pos) (tC (.bl b)) := fun _ _ _ H _ I h => Constant_bool ⟨.bl b, H, I, rfl, h⟩
theorem pe_str {x j pos} : PE X (.Constant (.str x) j pos) (tC (.str x)) := fun _ _ _ H _ I h => Calls.Constant_str ⟨.str x, H, I.tok _, ⟨_, rfl⟩, h⟩

/-- a global name of the def -/
def Gl (X : Cx) (x : Str) : Prop := X.env.kindOf x = some .globalImplicit
theorem ld_glob {E : Value → Shared → Prop} {pins : List (Addr × Obj)} {s : Shared} {σ : St} {H : Hp} {x : Str} {u : Value} {pos : Pos} {Q : Value → Shared → Prop} (I : Inv X pins σ H s) (hg : Gl X x) (hm : X.mg x = some u) (h : Q u s)
    (hd : (x == ("__debug__" : Str)) = false := by decide) : wpAny (model X.prog X.w) X.A (eval (.Name x pos) X.env) Q E s :=
  Calls.Name_function_global I.ok.kind hg (Calls.loadGlobal_global (by rw [I.ok.glob]; exact I.mod.glob.keeps I.bk) hm h) hd
theorem ld_blt {E : Value → Shared → Prop} {pins : List (Addr × Obj)} {s : Shared} {σ : St} {H : Hp} {x : Str} {u : Value} {pos : Pos} {Q : Value → Shared → Prop} (I : Inv X pins σ H s) (hg : Gl X x) (hm : X.mg x = none) (hv : bootBuiltins x = some u) (h : Q u s)
    (hn : x ≠ "__name__" := by decide) (hd : (x == ("__debug__" : Str)) = false := by decide) : wpAny (model X.prog X.w) X.A (eval (.Name x pos) X.env) Q E s := by
  obtain ⟨mb, h1, h2⟩ := I.mod.blt
  exact Calls.Name_function_global I.ok.kind hg (Calls.loadGlobal_builtin (by rw [I.ok.glob]; exact I.mod.glob.keeps I.bk) hm (by rw [I.ok.blt]; exact h1.keeps I.bk) ((h2 x hn).trans hv) h) hd
/-- a module's constant, a class, a function, as a value -/
theorem pe_glob {x : Str} {v : V} {u : Value} {pos : Pos} (hg : Gl X x) (hm : X.mg x = some u) (r : RelV v u) (hd : (x == ("__debug__" : Str)) = false := by decide) : PE X (.Name x pos) (tC v) :=
  fun _ _ _ H _ I h => ld_glob I hg hm ⟨v, H, I, r, h⟩ hd
theorem pe_bltn {x : Str} {v : V} {u : Value} {pos : Pos} (hg : Gl X x) (hm : X.mg x = none) (hv : bootBuiltins x = some u) (r : RelV v u) (hn : x ≠ "__name__" := by decide) (hd : (x == ("__debug__" : Str)) = false := by decide) : PE X (.Name x pos) (tC v) :=
  fun _ _ _ H _ I h => ld_blt I hg hm hv ⟨v, H, I, r, h⟩ hn hd

/-! ### arithmetic -/
variable {a b : Expr} {ta tb : TE} {pos : Pos}

/-! ### comparisons -/
def PC (X : Cx) (op : CmpOp) (a b : Expr) (t : TE) : Prop :=
  ∀ (pins : List (Addr × Obj)) (s : Shared) (σ : St) (H : Hp) (Q : VK), Inv X pins σ H s → t σ H Q →
    wpAny (model X.prog X.w) X.A (eval a X.env) (fun v s₁ => wpAny (model X.prog X.w) X.A (eval b X.env) (fun u s₂ => wpAny (model X.prog X.w) X.A (compareOp op v u) (EP X pins σ Q) X.xe s₂) X.xe s₁) X.xe s
theorem nobehind (b : Expr) {op : CmpOp} (h : op ≠ .In) (h2 : op ≠ .NotIn) : behindInMarks op b = false := by
  have e1 : (op == CmpOp.In) = false := by cases op <;> first | rfl | exact absurd rfl h
  have e2 : (op == CmpOp.NotIn) = false := by cases op <;> first | rfl | exact absurd rfl h2
  cases b <;> simp [behindInMarks, e1, e2]
/-- a comparison as a value, as a test -/
def tB (t : TE) : TT := fun σ H Q => t σ H fun x H1 => ∃ c, x = .bl c ∧ Q c H1
theorem pt_cmp {op : CmpOp} {t : TE} (h : PC X op a b t) (h1 : behindInMarks op b = false := by first | exact nobehind _ (by decide) (by decide) | rfl) : PT X (.Compare a [op] [b] pos) (tB t) := by
  intro pins s σ H Q I hw
  refine wpAny_isTrue_Compare1 (thn (h pins s σ H _ I hw) fun v s1 h1 => thn h1 fun u s2 h2 => thn h2 fun c s3 ⟨x, H1, I1, r1, q1⟩ => ?_) h1
  obtain ⟨d, rfl, q⟩ := q1
  cases r1
  exact wpAny_truthy_bool ⟨H1, I1, q⟩
/-- an expression whose value is a bool, as a test -/
theorem pt_val {e : Expr} {t : TE} (h : PE X e t) (he : ∀ whole, isTrue e X.env whole = (do let v ← whole; standAt e.pos; holding [v] (truthy v)) := by intro _; rfl) : PT X e (tB t) := by
  intro pins s σ H Q I hw
  refine isTrue_plain (thn (h pins s σ H _ I hw) fun v s1 ⟨x, H1, I1, r1, q1⟩ => ?_) (he _)
  obtain ⟨d, rfl, q⟩ := q1
  cases r1
  exact wpAny_truthy_bool ⟨H1, I1, q⟩

/-! ### and, or, not -/
variable {tA tB' : TT} {rest : List Expr}
def tAnd (t u : TT) : TT := fun σ H Q => t σ H fun c H1 => if c = true then u σ H1 Q else Q false H1
def tOr (t u : TT) : TT := fun σ H Q => t σ H fun c H1 => if c = true then Q true H1 else u σ H1 Q
def tNot (t : TT) : TT := fun σ H Q => t σ H fun c H1 => Q (!c) H1
theorem pw_and1 (ha : PT X a tA) : PW X (.BoolOp .And [a] pos) tA := by
  intro wh pins s σ H Q I h
  refine isTrue_and (thn (ha pins s σ H Q I h) fun c s1 e => ?_)
  cases c with
  | true => exact isTrue_and_nil e
  | false => exact e
theorem pw_or1 (ha : PT X a tA) : PW X (.BoolOp .Or [a] pos) tA := by
  intro wh pins s σ H Q I h
  refine isTrue_or (thn (ha pins s σ H Q I h) fun c s1 e => ?_)
  cases c with
  | false => exact isTrue_or_nil e
  | true => exact e
theorem pw_and (ha : PT X a tA) (hb : PW X (.BoolOp .And (b :: rest) pos) tB') : PW X (.BoolOp .And (a :: b :: rest) pos) (tAnd tA tB') := by
  intro wh pins s σ H Q I h
  refine isTrue_and (thn (ha pins s σ H _ I h) fun c s1 ⟨H1, I1, q1⟩ => ?_)
  cases c with
  | true => exact hb wh pins s1 σ H1 Q I1 q1
  | false => exact ⟨H1, I1, q1⟩
theorem pw_or (ha : PT X a tA) (hb : PW X (.BoolOp .Or (b :: rest) pos) tB') : PW X (.BoolOp .Or (a :: b :: rest) pos) (tOr tA tB') := by
  intro wh pins s σ H Q I h
  refine isTrue_or (thn (ha pins s σ H _ I h) fun c s1 ⟨H1, I1, q1⟩ => ?_)
  cases c with
  | true => exact ⟨H1, I1, q1⟩
  | false => exact hb wh pins s1 σ H1 Q I1 q1
theorem pt_not (ha : PT X a tA) : PT X (.UnaryOp .Not a pos) (tNot tA) := by
  intro pins s σ H Q I h
  exact isTrue_not (ha pins s σ H (fun c H1 => Q (!c) H1) I h)
/-- .. as values (bools) -/
def tAndV (ta tb : TE) : TE := fun σ H Q => ta σ H fun x H1 => ∃ c, x = .bl c ∧ if c = true then tb σ H1 Q else Q (.bl false) H1
def tOrV (ta tb : TE) : TE := fun σ H Q => ta σ H fun x H1 => ∃ c, x = .bl c ∧ if c = true then Q (.bl true) H1 else tb σ H1 Q
def tNotV (ta : TE) : TE := fun σ H Q => ta σ H fun x H1 => ∃ c, x = .bl c ∧ Q (.bl (!c)) H1
theorem pe_one {op} {t : TE} (h : PE X a t) : PE X (.BoolOp op [a] pos) t := fun pins s σ H Q I hw => BoolOp_one (h pins s σ H Q I hw)
theorem pe_and (ha : PE X a ta) (hb : PE X (.BoolOp .And (b :: rest) pos) tb) : PE X (.BoolOp .And (a :: b :: rest) pos) (tAndV ta tb) := by
  intro pins s σ H Q I h
  refine BoolOp_and (thn (ha pins s σ H _ I h) fun v s1 ⟨x, H1, I1, r1, q1⟩ => ?_)
  obtain ⟨c, rfl, q1⟩ := q1
  cases r1
  refine wpAny_truthy_bool ?_
  cases c with
  | true => exact hb pins s1 σ H1 Q I1 q1
  | false => exact ⟨.bl false, H1, I1, rfl, q1⟩
theorem pe_or (ha : PE X a ta) (hb : PE X (.BoolOp .Or (b :: rest) pos) tb) : PE X (.BoolOp .Or (a :: b :: rest) pos) (tOrV ta tb) := by
  intro pins s σ H Q I h
  refine BoolOp_or (thn (ha pins s σ H _ I h) fun v s1 ⟨x, H1, I1, r1, q1⟩ => ?_)
  obtain ⟨c, rfl, q1⟩ := q1
  cases r1
  refine wpAny_truthy_bool ?_
  cases c with
  | false => exact hb pins s1 σ H1 Q I1 q1
  | true => exact ⟨.bl true, H1, I1, rfl, q1⟩
theorem pe_not (ha : PE X a ta) : PE X (.UnaryOp .Not a pos) (tNotV ta) := by
  intro pins s σ H Q I h
  refine UnaryOp_ (thn (ha pins s σ H _ I h) fun v s1 ⟨x, H1, I1, r1, q1⟩ => ?_)
  obtain ⟨c, rfl, q1⟩ := q1
  cases r1
  exact not_of (wpAny_truthy_bool ⟨.bl (!c), H1, I1, rfl, q1⟩)
end
end L2

namespace L2
open PySem PySem.Spec PyProof.Rows

/-! ### a list, a tuple that is read: tracked, frozen, or an object of the module -/
def SqL (K : PySem.W.Frag) (H : Hp) (a : Addr) (xs : List V) : Prop :=
  Rd H a (.lst xs) ∨
    ∃ (o : Obj) (its : Array Value) (n : Nat), K.lookup a = some o ∧ o.cls = .type "list" ∧ o.dict = none ∧ o.data = .seq its n ∧ its.size ≤ sizeLine ∧ Vals xs its.toList
def SqT (K : PySem.W.Frag) (H : Hp) (a : Addr) (xs : List V) : Prop :=
  Rd H a (.tup xs) ∨
    ∃ (o : Obj) (its : Array Value) (n : Nat), K.lookup a = some o ∧ o.cls = .type "tuple" ∧ o.data = .seq its n ∧ its.size ≤ sizeLine ∧ Vals xs its.toList
def absV : Value → Option V
  | .none => some .non
  | .bool b => some (.bl b)
  | .int i _ => some (.int i)
  | .str x _ => some (.str x)
  | .bytes b _ => some (.byt b)
  | .float b _ => some (.flt b)
  | .ref a => some (.ref a)
  | .type n => some (.ty n)
  | _ => none
theorem RelV.abs {x : V} {u : Value} (r : RelV x u) : absV u = some x := by
  cases x with
  | non => cases r; rfl
  | bl _ => cases r; rfl
  | int _ => obtain ⟨t, rfl⟩ := r; rfl
  | str _ => obtain ⟨t, rfl⟩ := r; rfl
  | byt _ => obtain ⟨t, rfl⟩ := r; rfl
  | flt _ => obtain ⟨t, rfl⟩ := r; rfl
  | ref _ => cases r; rfl
  | ty _ => cases r; rfl
theorem RelV.inj {x y : V} {u : Value} (r : RelV x u) (q : RelV y u) : x = y := Option.some.inj (r.abs.symm.trans q.abs)
theorem Vals.inj : ∀ {xs ys : List V} {us : List Value}, Vals xs us → Vals ys us → xs = ys
  | _, _, _, .nil, .nil => rfl
  | _, _, _, .cons r t, .cons r' t' => by rw [r.inj r', Vals.inj t t']
section
variable {X : Cx} {pins : List (Addr × Obj)} {σ : St} {H : Hp} {s : Shared} {a : Addr} {xs ys : List V}
theorem SqL.of {K : PySem.W.Frag} (h : H a = some (.lst xs)) : SqL K H a xs := .inl (.inl h)
theorem SqT.of {K : PySem.W.Frag} (h : H a = some (.tup xs)) : SqT K H a xs := .inl (.inl h)
theorem Inv.list (I : Inv X pins σ H s) (h : SqL X.K H a xs) : ∃ its : List Value, Vals xs its ∧ PlainL s.heap a its.toArray ∧ xs.length ≤ sizeLine := by
  rcases h with h | ⟨o, its, n, hk, hc, hd, hs, hz, r⟩
  · obtain ⟨z, its, n, r, e⟩ := h.ok I.hok
    exact ⟨its, r, ⟨_, n, e, rfl, rfl, rfl⟩, z⟩
  · refine ⟨its.toList, r, ⟨o, n, I.kIn a o hk, hc, hd, by simpa using hs⟩, ?_⟩
    have e := r.length
    simp only [Array.length_toList] at e
    omega
theorem Inv.tuple (I : Inv X pins σ H s) (h : SqT X.K H a xs) : ∃ its : List Value, Vals xs its ∧ IsTup s.heap a its.toArray ∧ xs.length ≤ sizeLine := by
  rcases h with h | ⟨o, its, n, hk, hc, hs, hz, r⟩
  · obtain ⟨z, its, r, p⟩ := h.ok I.hok
    exact ⟨its, r, p, z⟩
  · refine ⟨its.toList, r, ⟨o, I.kIn a o hk, hc, n, by simpa using hs⟩, ?_⟩
    have e := r.length
    simp only [Array.length_toList] at e
    omega
theorem Inv.list_inj (I : Inv X pins σ H s) (h : SqL X.K H a xs) (h' : SqL X.K H a ys) : xs = ys := by
  obtain ⟨its, r, ⟨o, n, e, _, _, d⟩, _⟩ := I.list h
  obtain ⟨its', r', ⟨o', n', e', _, _, d'⟩, _⟩ := I.list h'
  rw [e] at e'; cases e'
  rw [d] at d'
  injection d' with d1 _
  have : its = its' := by simpa using congrArg Array.toList d1
  subst this
  exact r.inj r'
theorem Inv.tuple_inj (I : Inv X pins σ H s) (h : SqT X.K H a xs) (h' : SqT X.K H a ys) : xs = ys := by
  obtain ⟨its, r, ⟨o, e, _, n, d⟩, _⟩ := I.tuple h
  obtain ⟨its', r', ⟨o', e', _, n', d'⟩, _⟩ := I.tuple h'
  rw [e] at e'; cases e'
  rw [d] at d'
  injection d' with d1 _
  have : its = its' := by simpa using congrArg Array.toList d1
  subst this
  exact r.inj r'
end

/-! ### another wish about exceptions -/
abbrev Cx.wish (X : Cx) (E : Value → Shared → Prop) : Cx := { X with xe := E }
/-- no exception leaves -/
abbrev Cx.nox (X : Cx) : Cx := X.wish fun _ _ => False
theorem Cx.Ok.wish {X : Cx} (ok : X.Ok) (E : Value → Shared → Prop) : (X.wish E).Ok :=
  ⟨ok.mod, ok.kind, ok.glob, ok.blt, ok.above, ok.inj, ok.has, ok.cab, ok.hd, ok.frames, ok.stk, ok.exf, ok.bs, ok.bsz, ok.noex, ok.exfs, ok.funs, ok.frf⟩
theorem Cx.Ok.unwish {X : Cx} {E : Value → Shared → Prop} (ok : (X.wish E).Ok) : X.Ok :=
  ⟨ok.mod, ok.kind, ok.glob, ok.blt, ok.above, ok.inj, ok.has, ok.cab, ok.hd, ok.frames, ok.stk, ok.exf, ok.bs, ok.bsz, ok.noex, ok.exfs, ok.funs, ok.frf⟩
section
variable {X : Cx} {pins : List (Addr × Obj)} {σ : St} {H : Hp} {s : Shared} {E : Value → Shared → Prop}
theorem Inv.wish (I : Inv X pins σ H s) (E : Value → Shared → Prop) : Inv (X.wish E) pins σ H s := ⟨I.ok.wish E, I.os, I.bare, I.base, I.loc, I.cell, I.free, I.freeC, I.pin, I.hok, I.len⟩
theorem Inv.unwish (I : Inv (X.wish E) pins σ H s) : Inv X pins σ H s := ⟨I.ok.unwish, I.os, I.bare, I.base, I.loc, I.cell, I.free, I.freeC, I.pin, I.hok, I.len⟩
theorem SP.unwish {D : Ends} {f : Flow} {s' : Shared} (h : SP (X.wish E) pins D f s') : SP X pins D f s' := by
  cases f with
  | next => obtain ⟨σ', H', I, q⟩ := h; exact ⟨σ', H', I.unwish, q⟩
  | brk => obtain ⟨σ', H', I, q⟩ := h; exact ⟨σ', H', I.unwish, q⟩
  | cont => obtain ⟨σ', H', I, q⟩ := h; exact ⟨σ', H', I.unwish, q⟩
  | ret u => obtain ⟨v, σ', H', I, r, q⟩ := h; exact ⟨v, σ', H', I.unwish, r, q⟩
theorem PE.nox {e : Expr} {t : TE} (h : PE X.nox e t) : PE X e t := fun pins s σ H Q I hw =>
  wpAny_mono (h pins s σ H Q (I.wish _) hw) (fun _ _ ⟨v, H', I', r, q⟩ => ⟨v, H', I'.unwish, r, q⟩) fun _ _ z => False.elim z
theorem PT.nox {e : Expr} {t : TT} (h : PT X.nox e t) : PT X e t := fun pins s σ H Q I hw =>
  wpAny_mono (h pins s σ H Q (I.wish _) hw) (fun _ _ ⟨H', I', q⟩ => ⟨H', I'.unwish, q⟩) fun _ _ z => False.elim z
theorem PSs.nox {st : List Stmt} {t : TS} (h : PSs X.nox st t) : PSs X st t := fun pins s σ H D I hw =>
  wpAny_mono (h pins s σ H D (I.wish _) hw) (fun _ _ q => q.unwish) fun _ _ z => False.elim z
end

/-! ### blocks and small statements -/
section
variable {X : Cx} {st : Stmt} {rest : List Stmt} {t u : TS} {e : Expr} {te : TE} {pos : Pos}
def tNext : TS := fun D σ H => D.nx σ H
def tSeq (t u : TS) : TS := fun D σ H => t { D with nx := u D } σ H
theorem pss_nil : PSs X [] tNext := fun _ _ σ H _ I h => wpAny_execs_nil ⟨σ, H, I, h⟩
theorem pss_cons (h1 : PS X st t) (h2 : PSs X rest u) : PSs X (st :: rest) (tSeq t u) := by
  intro pins s σ H D I h
  refine wpAny_execs_cons (thn (h1 pins s σ H { D with nx := u D } I h) fun f s1 q => ?_)
  cases f with
  | next =>
    obtain ⟨σ', H', I', q⟩ := q
    exact h2 pins s1 σ' H' D I' q
  | ret v => exact q
  | brk => exact q
  | cont => exact q
theorem pss_one (h1 : PS X st t) : PSs X [st] t := by
  intro pins s σ H D I h
  refine wpAny_execs_cons (thn (h1 pins s σ H D I h) fun f s1 q => ?_)
  cases f with
  | next => exact wpAny_execs_nil q
  | ret v => exact q
  | brk => exact q
  | cont => exact q
/-- in a def's body nothing is shown -/
theorem Inv.quiet {pins : List (Addr × Obj)} {σ : St} {H : Hp} {s : Shared} (I : Inv X pins σ H s) : interactive X.env = false := by simp [interactive, I.ok.kind]
/-- an expression whose value is dropped -/
def tDrop (te : TE) : TS := fun D σ H => te σ H fun _ H1 => D.nx σ H1
theorem ps_expr (he : PE X e te) (hs : swapsWith e none pos.line X.env = pure false := by rfl) : PS X (.Expr e pos) (tDrop te) := by
  intro pins s σ H D I h
  exact wpAny_Expr_any (thn (he pins s σ H _ I h) fun v s1 ⟨x, H1, I1, r1, q1⟩ => ⟨σ, H1, I1, q1⟩) I.quiet hs
def tRet (te : TE) : TS := fun D σ H => te σ H D.rt
theorem ps_ret (he : PE X e te) : PS X (.Return (some e) pos) (tRet te) := by
  intro pins s σ H D I h
  exact wpAny_Return_some (thn (he pins s σ H _ I h) fun v s1 ⟨x, H1, I1, r1, q1⟩ => ⟨x, σ, H1, I1, r1, q1⟩)
def tIfS (c : TT) (t u : TS) : TS := fun D σ H => c σ H fun b H1 => if b = true then t D σ H1 else u D σ H1
theorem ps_if {c : Expr} {a b : List Stmt} {tc : TT} (hc : PT X c tc) (ha : PSs X a t) (hb : PSs X b u) : PS X (.If c a b pos) (tIfS tc t u) := by
  intro pins s σ H D I h
  refine wpAny_If (thn (hc pins s σ H _ I h) fun d s1 ⟨H1, I1, q1⟩ => ?_)
  cases d with
  | true => exact ha pins s1 σ H1 D I1 q1
  | false => exact hb pins s1 σ H1 D I1 q1
end

/-! ### targets -/
abbrev TG := V → St → Hp → (St → Hp → Prop) → Prop
def PG (X : Cx) (target : Expr) (t : TG) : Prop :=
  ∀ (pins : List (Addr × Obj)) (s : Shared) (σ : St) (H : Hp) (v : V) (u : Value) (Q : St → Hp → Prop), Inv X pins σ H s → RelV v u → t v σ H Q →
    wpAny (model X.prog X.w) X.A (assign target X.env u) (fun _ s' => ∃ σ' H', Inv X pins σ' H' s' ∧ Q σ' H') X.xe s
section
variable {X : Cx} {pos : Pos}
def gName (i : Nat) : TG := fun v σ H Q => Q (σ.set i (some v)) H
theorem pg_name {i : Nat} {x : Str} (hN : X.N.Nodup) (hi : X.N[i]? = some x) (hx : Loc X.env.scope x) (hf : X.fn x = true ∨ X.env.scope.names.lookup x = some .local := by first | exact .inl rfl | exact .inr rfl | assumption) : PG X (.Name x pos) (gName i) := by
  intro pins s σ H v u Q I r h
  exact wpAny_assign_Name (store_ok I hN hi hx r (fun s' I' => ⟨_, H, I', h⟩) hf)
/-- target = value -/
def tAsg (te : TE) (g : TG) : TS := fun D σ H => te σ H fun x H1 => g x σ H1 D.nx
/-- name = value -/
theorem ps_set {i : Nat} {x : Str} {e : Expr} {te : TE} {pos' : Pos} (hN : X.N.Nodup) (hi : X.N[i]? = some x) (hx : Loc X.env.scope x) (he : PE X e te) (hs : swapsWith e (some (.Name x pos')) pos.line X.env = pure false := by rfl) (hf : X.fn x = true ∨ X.env.scope.names.lookup x = some .local := by first | exact .inl rfl | exact .inr rfl | assumption) :
    PS X (.Assign [.Name x pos'] e pos) (tAsg te (gName i)) := by
  intro pins s σ H D I h
  refine wpAny_Assign_Name (thn (he pins s σ H _ I h) fun v s1 ⟨y, H1, I1, r1, q1⟩ => ?_) hs
  exact store_ok I1 hN hi hx r1 (fun s2 I2 => ⟨_, H1, I2, q1⟩) hf
end

/-! ### while -/
section
variable {X : Cx} {pos : Pos}
end

/-! ### what a loop or a comprehension walks -/
/-- at turn i: it yields x (the heap may grow), or it stops -/
structure It where
  go : Nat → Hp → Prop
  yld : Nat → Hp → V → Hp → Prop
  stop : Nat → Hp → Prop
/-- the iterator's own objects may turn: they are not the frame's, not pinned, younger than the entry (or a comprehension's own) -/
def FpOk (X : Cx) (pins : List (Addr × Obj)) (H : Hp) (b : Addr) : Prop :=
  H b = none ∧ b ≠ X.env.locals ∧ b ∉ X.fs ∧ (b ∈ X.ex ∨ X.s₀.heap.objs.size ≤ b) ∧ (∀ x c, X.env.cells.lookup x = some c → c ≠ b) ∧ ∀ p ∈ X.pn ++ pins, p.1 ≠ b
theorem Inv.fpOk {X : Cx} {pins : List (Addr × Obj)} {σ : St} {H H' : Hp} {s : Shared} {b : Addr} (I : Inv X pins σ H s) (hb : s.heap.objs.size ≤ b) (hn : H' b = none) : FpOk X pins H' b := by
  refine ⟨hn, Nat.ne_of_gt (Nat.lt_of_lt_of_le I.lt hb), I.nofs hb, .inr (Nat.le_trans I.sz hb), fun x c e z => ?_, fun p hp z => ?_⟩
  · obtain ⟨v, q⟩ := I.cell x c e
    exact absurd (Nat.lt_of_lt_of_le q.lt (by rw [z]; exact hb)) (Nat.lt_irrefl _)
  · exact absurd (Nat.lt_of_lt_of_le (Heap.lt_size (I.pin p hp).1) (by rw [z]; exact hb)) (Nat.lt_irrefl _)
structure Turn (P : Program) (w : World) (K : PySem.W.Frag) (tg : Expr) (J : It) (fp : List Addr) (it : Addr) (tn : Nat → Heap → Prop) : Prop where
  mem : it ∈ fp
  obj : ∀ i h, tn i h → ∀ b ∈ fp, ∃ o, h.get? b = some o ∧ ∀ v, o.data ≠ .cell v
  keep : ∀ i h h', tn i h → (∀ b ∈ fp, ∀ o, h.get? b = some o → h'.get? b = some o) → tn i h'
  item : ∀ (X : Cx), X.prog = P → X.w = w → X.K = K → X.calm = true → ∀ (i : Nat) (pins : List (Addr × Obj)) (s : Shared) (σ : St) (H : Hp) (E : Value → Shared → Prop), Inv X pins σ H s → (∀ b ∈ fp, FpOk X pins H b) → tn i s.heap → J.go i H →
    wpAny (model P w) X.A (pyNext (.ref it)) (fun r s1 => ∃ u, r = some u ∧
      wpAny (model P w) X.A (letOwnedTupleGo tg (.ref it) u) (fun _ s2 => ∃ x H', Inv X pins σ H' s2 ∧ RelV x u ∧ J.yld i H x H' ∧ tn (i + 1) s2.heap ∧ ∀ b ∈ fp, H' b = none) E s1) E s
  done : ∀ (X : Cx), X.prog = P → X.w = w → X.K = K → X.calm = true → ∀ (i : Nat) (pins : List (Addr × Obj)) (s : Shared) (σ : St) (H : Hp) (E : Value → Shared → Prop), Inv X pins σ H s → (∀ b ∈ fp, FpOk X pins H b) → tn i s.heap → J.stop i H →
    wpAny (model P w) X.A (pyNext (.ref it)) (fun r s1 => r = none ∧ Inv X pins σ H s1) E s
  self : ∀ (A : Around) (i : Nat) (s : Shared) (Q : Value → Shared → Prop) (E : Value → Shared → Prop), tn i s.heap → Q (.ref it) s → wpAny (model P w) A (pyIter (.ref it)) Q E s
abbrev TI := St → Hp → (It → Hp → Prop) → Prop
/-- an iterator has come -/
def PIE (X : Cx) (pins : List (Addr × Obj)) (σ : St) (tg : Expr) (R : It → Hp → Prop) (itv : Value) (s2 : Shared) : Prop :=
  ∃ (it : Addr) (fp : List Addr) (tn : Nat → Heap → Prop) (J : It) (H' : Hp), itv = .ref it ∧ Inv X pins σ H' s2 ∧ Turn X.prog X.w X.K tg J fp it tn ∧ tn 0 s2.heap ∧ (∀ b ∈ fp, FpOk X pins H' b) ∧ R J H'
def PI (X : Cx) (tg iter : Expr) (wi : TI) : Prop :=
  ∀ (pins : List (Addr × Obj)) (s : Shared) (σ : St) (H : Hp) (R : It → Hp → Prop), Inv X pins σ H s → wi σ H R →
    wpAny (model X.prog X.w) X.A (eval iter X.env) (fun v s1 => wpAny (model X.prog X.w) X.A (pyIter v) (PIE X pins σ tg R) X.xe s1) X.xe s

/-- the step ahead of the store is nothing for an iterator that keeps no tuple -/
theorem go_of {M : Model} {A : Around} {E : Value → Shared → Prop} {s : Shared} {tg : Expr} {it : Addr} {u : Value} {o : Obj} {n : String} {vs : Array Value} {Q : Unit → Shared → Prop} (ho : s.heap.get? it = some o) (hc : o.cls = .type n) (hd : o.data = .fields vs)
    (hn : ["enumerate", "zip", "dict_itemiterator", "dict_reverseitemiterator", "odict_iterator", "itertools.zip_longest", "itertools.pairwise"].contains n = false) (hQ : Q () s) : wpAny M A (letOwnedTupleGo tg (.ref it) u) Q E s := by
  unfold letOwnedTupleGo
  cases tg <;> first
    | exact wpAny_pure hQ
    | (cases u <;> first
        | exact wpAny_pure hQ
        | (refine wpAny_bind (wpAny_load ho ?_)
           rw [hc, hd]
           show wpAny M A (if (["enumerate", "zip", "dict_itemiterator", "dict_reverseitemiterator", "odict_iterator", "itertools.zip_longest", "itertools.pairwise"].contains n && vs[0]? == some (rawInt _)) = true then _ else _) Q E s
           rw [if_neg (by intro h; rw [hn, Bool.false_and] at h; cases h)]
           exact wpAny_pure hQ))

/-- the list at a, as it stands at each turn (a loop may append to it) -/
def Itl (K : PySem.W.Frag) (a : Addr) : It :=
  ⟨fun i H => ∃ xs x, SqL K H a xs ∧ xs[i]? = some x, fun i H x H' => H' = H ∧ ∀ xs, SqL K H a xs → xs[i]? = some x, fun i H => ∃ xs, SqL K H a xs ∧ xs.length ≤ i⟩
def Itt (K : PySem.W.Frag) (a : Addr) : It :=
  ⟨fun i H => ∃ xs x, SqT K H a xs ∧ xs[i]? = some x, fun i H x H' => H' = H ∧ ∀ xs, SqT K H a xs → xs[i]? = some x, fun i H => ∃ xs, SqT K H a xs ∧ xs.length ≤ i⟩
/-- lo, lo + 1, .. (n of them) -/
def Itr (lo : Int) (n : Nat) : It := ⟨fun i _ => i < n, fun i H x H' => H' = H ∧ x = .int (lo + i), fun i _ => n ≤ i⟩
theorem turn_list {P : Program} {w : World} {K : PySem.W.Frag} {tg : Expr} (a it : Addr) : Turn P w K tg (Itl K a) [it] it (fun i h => h.IsListIter it a i) where
  mem := by simp
  obj := fun i h st b hb => by
    have e : b = it := by simpa using hb
    subst e
    obtain ⟨o, e, c, d⟩ := st
    exact ⟨o, e, fun v z => by rw [d] at z; cases z⟩
  keep := fun i h h' st k => st.at fun o e => k it (by simp) o e
  item := by
    intro X hP hw hK hc i pins s σ H E I hf st hg
    subst hP hw hK
    obtain ⟨xs, x, hq, hx⟩ := hg
    obtain ⟨its, rv, p, hz⟩ := I.list hq
    obtain ⟨u, hu, ru⟩ := rv.get hx
    obtain ⟨f0, f1, f2, f3, f4, f5⟩ := hf it (by simp)
    refine wpAny_pyNext_list_item st p.isList (x := u) (by simpa using hu) fun h' st' sb => ?_
    have I1 : Inv X pins σ H { s with heap := h' } := I.turned (t' := s.toks) (fun b o hb e => (sb.2 b hb).trans e) f0 f1 f3 f4 f5
    obtain ⟨o, e, c, d⟩ := id st'
    exact ⟨u, rfl, go_of (s := { s with heap := h' }) e c d (by decide) ⟨x, H, I1, ru, ⟨rfl, fun ys hy => by rw [I.list_inj hy hq]; exact hx⟩, st', fun b hb => (hf b hb).1⟩⟩
  done := by
    intro X hP hw hK hc i pins s σ H E I hf st hg
    subst hP hw hK
    obtain ⟨xs, hq, hx⟩ := hg
    obtain ⟨its, rv, p, hz⟩ := I.list hq
    obtain ⟨f0, f1, f2, f3, f4, f5⟩ := hf it (by simp)
    have hl := rv.length
    exact wpAny_pyNext_list_end (I.ok.hd hc) st p.isList (by simp; omega) fun h' eb => ⟨rfl, I.turned (t' := s.toks) (fun b o hb e => eb b o hb e) f0 f1 f3 f4 f5⟩
  self := fun _ _ _ _ _ st h => wpAny_pyIter_listiter st h
theorem turn_tuple {P : Program} {w : World} {K : PySem.W.Frag} {tg : Expr} (a it : Addr) : Turn P w K tg (Itt K a) [it] it (fun i h => h.IsTupleIter it a i) where
  mem := by simp
  obj := fun i h st b hb => by
    have e : b = it := by simpa using hb
    subst e
    obtain ⟨o, e, c, d⟩ := st
    exact ⟨o, e, fun v z => by rw [d] at z; cases z⟩
  keep := fun i h h' st k => st.at fun o e => k it (by simp) o e
  item := by
    intro X hP hw hK hc i pins s σ H E I hf st hg
    subst hP hw hK
    obtain ⟨xs, x, hq, hx⟩ := hg
    obtain ⟨its, rv, p, hz⟩ := I.tuple hq
    obtain ⟨u, hu, ru⟩ := rv.get hx
    obtain ⟨f0, f1, f2, f3, f4, f5⟩ := hf it (by simp)
    refine wpAny_pyNext_tuple_item st (show s.heap.IsTuple a its.toArray from p) (x := u) (by simpa using hu) fun h' st' sb => ?_
    have I1 : Inv X pins σ H { s with heap := h' } := I.turned (t' := s.toks) (fun b o hb e => (sb.2 b hb).trans e) f0 f1 f3 f4 f5
    obtain ⟨o, e, c, d⟩ := id st'
    exact ⟨u, rfl, go_of (s := { s with heap := h' }) e c d (by decide) ⟨x, H, I1, ru, ⟨rfl, fun ys hy => by rw [I.tuple_inj hy hq]; exact hx⟩, st', fun b hb => (hf b hb).1⟩⟩
  done := by
    intro X hP hw hK hc i pins s σ H E I hf st hg
    subst hP hw hK
    obtain ⟨xs, hq, hx⟩ := hg
    obtain ⟨its, rv, p, hz⟩ := I.tuple hq
    obtain ⟨f0, f1, f2, f3, f4, f5⟩ := hf it (by simp)
    have hl := rv.length
    exact wpAny_pyNext_tuple_end (I.ok.hd hc) st (show s.heap.IsTuple a its.toArray from p) (by simp; omega) fun h' eb => ⟨rfl, I.turned (t' := s.toks) (fun b o hb e => eb b o hb e) f0 f1 f3 f4 f5⟩
  self := fun _ _ _ _ _ st h => wpAny_pyIter_tupleiter st h
theorem turn_range {P : Program} {w : World} {K : PySem.W.Frag} {tg : Expr} (it : Addr) (lo : Int) (n : Nat) : Turn P w K tg (Itr lo n) [it] it (fun i h => IsRangeIter h it (lo + (i : Nat) * 1) ((n : Int) - (i : Nat)) 1) where
  mem := by simp
  obj := fun i h st b hb => by
    have e : b = it := by simpa using hb
    subst e
    exact ⟨_, st, fun v z => by
      have z' : Data.fields _ = Data.cell v := z
      cases z'⟩
  keep := fun i h h' st k => k it (by simp) _ st
  item := by
    intro X hP hw hK hc i pins s σ H E I hf st hg
    subst hP hw hK
    obtain ⟨f0, f1, f2, f3, f4, f5⟩ := hf it (by simp)
    have W := Walks.range (prog := X.prog) (w := X.w) (I.ok.hd hc) it lo 1 n
    refine W.item i s _ _ hg st fun v h' tk hv st' kk => ?_
    obtain ⟨t, rfl⟩ := hv
    have I1 : Inv X pins σ H { s with heap := h', toks := tk } := I.turned (fun b o hb e => kk b o (by simpa using hb) e) f0 f1 f3 f4 f5
    refine ⟨_, rfl, go_of (s := { s with heap := h', toks := tk }) (n := "range_iterator") st' rfl rfl (by decide) ⟨.int (lo + i), H, I1, ⟨t, ?_⟩, ⟨rfl, rfl⟩, st', fun b hb => (hf b hb).1⟩⟩
    rw [Int.mul_one]
  done := by
    intro X hP hw hK hc i pins s σ H E I hf st hg
    subst hP hw hK
    obtain ⟨f0, f1, f2, f3, f4, f5⟩ := hf it (by simp)
    exact wpAny_pyNext_range_end (I.ok.hd hc) st (by have : n ≤ i := hg; omega) fun h' eb => ⟨rfl, I.turned (t' := s.toks) (fun b o hb e => eb b o hb e) f0 f1 f3 f4 f5⟩
  self := fun _ _ _ _ _ st h => wpAny_pyIter_rangeiter st h
end L2

namespace L2
open PySem PySem.Spec PyProof.Rows
section
variable {X : Cx} {tg : Expr}
/-- a range object just made, walked -/
theorem range_it {pins : List (Addr × Obj)} {σ : St} {H : Hp} {s : Shared} {R : It → Hp → Prop} {E : Value → Shared → Prop} {lo hi : Int} {t u v : Tok} {tk : Nat} (I : Inv X pins σ H s) (h1 : -(2 ^ 62) ≤ lo) (h2 : lo < 2 ^ 62) (h3 : -(2 ^ 62) ≤ hi) (h4 : hi < 2 ^ 62)
    (q : R (Itr lo (hi - lo).toNat) H) : wpAny (model X.prog X.w) X.A (pyIter (.ref s.heap.objs.size)) (PIE X pins σ tg R) E { s with heap := s.heap.push { cls := .type "range", data := .fields #[.int lo t, .int hi u, .int 1 v] }, toks := tk } := by
  refine wpAny_pyIter_range (IsRange.new ..) (small_one h1 h2 h3 h4) ?_
  have I1 : Inv X pins σ H { s with heap := s.heap.push { cls := .type "range", data := .fields #[.int lo t, .int hi u, .int 1 v] }, toks := tk } := I.kept fun b o e => Heap.get?_push_of_some _ e
  refine ⟨(s.heap.push { cls := .type "range", data := .fields #[.int lo t, .int hi u, .int 1 v] }).objs.size, [(s.heap.push { cls := .type "range", data := .fields #[.int lo t, .int hi u, .int 1 v] }).objs.size], _, _, H, rfl,
    I1.kept (t' := tk) fun b o e => Heap.get?_push_of_some _ e, turn_range _ lo (hi - lo).toNat, ?_, fun b hb => ?_, q⟩
  · have e1 : lo + ((0 : Nat) : Int) * 1 = lo := by simp
    have e2 : (((hi - lo).toNat : Nat) : Int) - ((0 : Nat) : Int) = Builtin.Range.rangeSize lo hi 1 := by rw [rangeSize_one]; split <;> omega
    show IsRangeIter _ _ (lo + ((0 : Nat) : Int) * 1) ((((hi - lo).toNat : Nat) : Int) - ((0 : Nat) : Int)) 1
    rw [e1, e2]
    exact Heap.get?_push_size _ rfl
  · have e : b = (s.heap.push { cls := .type "range", data := .fields #[.int lo t, .int hi u, .int 1 v] }).objs.size := by simpa using hb
    subst e
    exact I1.fpOk (Nat.le_refl _) (I1.hok.fresh (Nat.le_refl _))
def iRng1 (ta : TA) : TI := fun σ H R => ta σ H fun vs H1 => ∃ j : Int, vs = [.int j] ∧ -(2 ^ 62) ≤ j ∧ j < 2 ^ 62 ∧ R (Itr 0 j.toNat) H1
theorem pi_range1 {a : Expr} {ta : TA} {p pos : Pos} (hg : Gl X "range") (hm : X.mg "range" = none) (ha : PA X [a] ta) (hs : starEach [a] X.env = [(false, eval a X.env)] := by rfl) : PI X tg (.Call (.Name "range" p) [a] [] pos) (iRng1 ta) := by
  intro pins s σ H R I h
  refine Call_ (ld_blt I hg hm boot_range (PyProof.Rows.callWith_type1 (thn (ha pos pins s σ H _ I h) fun us s1 ⟨vs, H1, I1, r1, q1⟩ => ?_) hs rfl))
  obtain ⟨j, e, q1, q2, q⟩ := q1
  subst e
  cases r1 with
  | cons r rr =>
    cases rr
    obtain ⟨t, rfl⟩ := r
    exact call_range_1 (range_it I1 (by omega) (by omega) q1 q2 (by simpa using q))

/-! ### for -/
/-- W: the invariant by the turn and a measure; N: what the body is to reach -/
def tFor (wi : TI) (g : TG) (tb : TS) : TS := fun D σ H => wi σ H fun J H1 => ∃ W : Nat → Nat → St → Hp → Prop, (∃ m, W 0 m σ H1) ∧ ∀ i m σ H, W i m σ H →
  (J.stop i H ∧ D.nx σ H) ∨ (J.go i H ∧ ∃ N : St → Hp → Prop, (∀ σ' H', N σ' H' → ∃ m', m' < m ∧ W (i + 1) m' σ' H') ∧ ∀ x H', J.yld i H x H' → g x σ H' fun σ2 H2 => tb { D with nx := N, ct := N, bk := D.nx } σ2 H2)
/-- the records at fp as they stand -/
def pinsAt (fp : List Addr) (h : Heap) : List (Addr × Obj) := fp.filterMap fun b => (h.get? b).map fun o => (b, o)
theorem mem_pinsAt {fp : List Addr} {h : Heap} {b : Addr} {o : Obj} (hb : b ∈ fp) (e : h.get? b = some o) : (b, o) ∈ pinsAt fp h := List.mem_filterMap.mpr ⟨b, hb, by rw [e]; rfl⟩
theorem of_pinsAt {fp : List Addr} {h : Heap} {p : Addr × Obj} (hp : p ∈ pinsAt fp h) : p.1 ∈ fp ∧ h.get? p.1 = some p.2 := by
  obtain ⟨b, hb, e⟩ := List.mem_filterMap.mp hp
  cases q : h.get? b with
  | none => rw [q] at e; cases e
  | some o =>
    rw [q] at e
    have e' : (b, o) = p := Option.some.inj e
    subst e'
    exact ⟨hb, q⟩
theorem Inv.pinned {pins : List (Addr × Obj)} {σ : St} {H : Hp} {s : Shared} {fp : List Addr} (I : Inv X pins σ H s) (hf : ∀ b ∈ fp, FpOk X pins H b) (ho : ∀ b ∈ fp, ∃ o, s.heap.get? b = some o ∧ ∀ v, o.data ≠ .cell v) : Inv X (pins ++ pinsAt fp s.heap) σ H s :=
  I.pins_of fun p hp => (List.mem_append.mp hp).elim (fun z => I.pin p (List.mem_append_right _ z)) fun z => by
    obtain ⟨hb, e⟩ := of_pinsAt z
    obtain ⟨f0, f1, f2, _⟩ := hf p.1 hb
    obtain ⟨o, e', d⟩ := ho p.1 hb
    rw [e] at e'; cases e'
    exact ⟨e, f0, f1, f2, d⟩
theorem Inv.unpinned {pins pl : List (Addr × Obj)} {σ : St} {H : Hp} {s : Shared} (I : Inv X (pins ++ pl) σ H s) : Inv X pins σ H s := I.pins_of fun p hp => I.pin p (List.mem_append_right _ (List.mem_append_left _ hp))
theorem ps_for {iter : Expr} {body : List Stmt} {wi : TI} {g : TG} {tb : TS} {pos : Pos} (hp : PassesOwn (model X.prog X.w) X.A X.env X.xe) (hc : X.calm = true) (hi : PI X tg iter wi) (hg : PG X tg g) (hb : PSs X body tb)
    (hs : ∀ x, foldedSetIterable iter X.env x = pure x := by intro _; rfl) : PS X (.For tg iter body [] pos) (tFor wi g tb) := by
  intro pins s σ H D I h
  refine wpAny_For (thn (hi pins s σ H _ I h) fun v s1 h1 => thn h1 fun itv s2 h2 => ?_) hs
  obtain ⟨it, fp, tn, J, H2, e, I2, T, st2, f2, W, ⟨m0, w0⟩, turn⟩ := h2
  subst e
  -- what stays true of the iterator's objects through the loop
  have stat : ∀ {H' : Hp}, (∀ b ∈ fp, H' b = none) → ∀ b ∈ fp, FpOk X pins H' b := fun hn b hb => ⟨hn b hb, (f2 b hb).2⟩
  refine codeAny_forLoop_any (fun n s' => ∃ i σ' H', Inv X pins σ' H' s' ∧ tn i s'.heap ∧ (∀ b ∈ fp, H' b = none) ∧ W i n σ' H') ?_ m0 ⟨0, σ, H2, I2, st2, fun b hb => (f2 b hb).1, w0⟩
  rintro n s3 ⟨i, σ3, H3, I3, st3, fr3, w3⟩
  rcases turn i n σ3 H3 w3 with ⟨stop, qn⟩ | ⟨go, N, hN, step⟩
  · refine wpAny_passesOwn hp (thn (T.done X rfl rfl rfl hc i pins s3 σ3 H3 X.xe I3 (stat fr3) st3 stop) fun r s4 ⟨hr, I4⟩ => ?_)
    subst hr
    exact wpAny_execs_nil ⟨σ3, H3, I4, qn⟩
  · refine wpAny_passesOwn hp (thn (T.item X rfl rfl rfl hc i pins s3 σ3 H3 X.xe I3 (stat fr3) st3 go) fun r s4 ⟨u, hr, h4⟩ => ?_)
    subst hr
    refine wpAny_passesOwn hp (thn h4 fun _ s5 ⟨x, H5, I5, r5, y5, st5, fr5⟩ => ?_)
    have I5' := I5.pinned (stat fr5) (T.obj _ _ st5)
    refine wpAny_passesOwn hp (thn (hg _ s5 σ3 H5 x u _ I5' r5 (step x H5 y5)) fun _ s6 ⟨σ6, H6, I6, q6⟩ => ?_)
    refine wpAny_passesOwn hp (thn (hb _ s6 σ6 H6 _ I6 q6) fun f s7 q7 => ?_)
    have again : ∀ {σ7 : St} {H7 : Hp}, Inv X (pins ++ pinsAt fp s5.heap) σ7 H7 s7 → N σ7 H7 → ∃ m, m < n ∧ ∃ i σ' H', Inv X pins σ' H' s7 ∧ tn i s7.heap ∧ (∀ b ∈ fp, H' b = none) ∧ W i m σ' H' := fun {σ7 H7} I7 n7 => by
      obtain ⟨m', hm, w7⟩ := hN σ7 H7 n7
      refine ⟨m', hm, i + 1, σ7, H7, I7.unpinned, T.keep _ _ _ st5 fun b hb o e => (I7.pin (b, o) (List.mem_append_right _ (List.mem_append_right _ (mem_pinsAt hb e)))).1, fun b hb => ?_, w7⟩
      obtain ⟨o, e, d⟩ := T.obj _ _ st5 b hb
      exact (I7.pin (b, o) (List.mem_append_right _ (List.mem_append_right _ (mem_pinsAt hb e)))).2.1
    cases f with
    | next => obtain ⟨σ7, H7, I7, n7⟩ := q7; exact again I7 n7
    | cont => obtain ⟨σ7, H7, I7, n7⟩ := q7; exact again I7 n7
    | brk => obtain ⟨σ7, H7, I7, q7⟩ := q7; exact ⟨σ7, H7, I7.unpinned, q7⟩
    | ret v => obtain ⟨x7, σ7, H7, I7, r7, q7⟩ := q7; exact ⟨x7, σ7, H7, I7.unpinned, r7, q7⟩
end

/-! ### the forms one uses -/
theorem for_range {lo : Int} {n : Nat} {g : TG} {tb : TS} {D : Ends} {σ : St} {H : Hp} (Pv : Nat → St → Hp → Prop) (h0 : Pv 0 σ H)
    (hs : ∀ i σ H, i < n → Pv i σ H → g (.int (lo + i)) σ H fun σ2 H2 => tb { D with nx := Pv (i + 1), ct := Pv (i + 1), bk := D.nx } σ2 H2) (hd : ∀ σ H, Pv n σ H → D.nx σ H) :
    ∃ W : Nat → Nat → St → Hp → Prop, (∃ m, W 0 m σ H) ∧ ∀ i m σ H, W i m σ H →
      ((Itr lo n).stop i H ∧ D.nx σ H) ∨ ((Itr lo n).go i H ∧ ∃ N : St → Hp → Prop, (∀ σ' H', N σ' H' → ∃ m', m' < m ∧ W (i + 1) m' σ' H') ∧ ∀ x H', (Itr lo n).yld i H x H' → g x σ H' fun σ2 H2 => tb { D with nx := N, ct := N, bk := D.nx } σ2 H2) := by
  refine ⟨fun i m σ H => m = n - i ∧ i ≤ n ∧ Pv i σ H, ⟨n, by simp, Nat.zero_le _, h0⟩, ?_⟩
  rintro i m σ H ⟨rfl, hi, p⟩
  by_cases hlt : i < n
  · refine .inr ⟨hlt, Pv (i + 1), fun σ' H' p' => ⟨n - (i + 1), by omega, rfl, hlt, p'⟩, fun x H' y => ?_⟩
    obtain ⟨e, y⟩ := y
    subst e y
    exact hs i σ _ hlt p
  · have e : i = n := by omega
    subst e
    exact .inl ⟨Nat.le_refl _, hd σ H p⟩
end L2

namespace L2
open PySem PySem.Spec PyProof.Rows

abbrev R2 := V → V → Hp → VK → Prop
/-- a two-place operation on values: f is binaryOp op, inplaceOp op or compareOp op -/
def OpR (X : Cx) (f : Value → Value → Sem Value) (r : R2) : Prop :=
  ∀ (pins : List (Addr × Obj)) (s : Shared) (σ : St) (H : Hp) (x y : V) (v u : Value) (Q : VK), Inv X pins σ H s → RelV x v → RelV y u → r x y H Q →
    wpAny (model X.prog X.w) X.A (f v u) (EP X pins σ Q) X.xe s
/-- a one-place operation -/
def UnR (X : Cx) (f : Value → Sem Value) (r : V → Hp → VK → Prop) : Prop :=
  ∀ (pins : List (Addr × Obj)) (s : Shared) (σ : St) (H : Hp) (x : V) (v : Value) (Q : VK), Inv X pins σ H s → RelV x v → r x H Q →
    wpAny (model X.prog X.w) X.A (f v) (EP X pins σ Q) X.xe s
/-- a call of a value that is known (a builtin, a type) with values -/
def CallR (X : Cx) (f : Value) (r : List V → Hp → VK → Prop) : Prop :=
  ∀ (pins : List (Addr × Obj)) (s : Shared) (σ : St) (H : Hp) (xs : List V) (us : List Value) (Q : VK), Inv X pins σ H s → Vals xs us → r xs H Q →
    wpAny (model X.prog X.w) X.A (call f us) (EP X pins σ Q) X.xe s

def tOp (r : R2) (ta tb : TE) : TE := fun σ H Q => ta σ H fun x H1 => tb σ H1 fun y H2 => r x y H2 Q
def tUn (r : V → Hp → VK → Prop) (ta : TE) : TE := fun σ H Q => ta σ H fun x H1 => r x H1 Q
/-- ints in, under C, and a value out -/
def rI (C : Int → Int → Prop) (g : Int → Int → V) : R2 := fun x y H Q => ∃ i j, x = .int i ∧ y = .int j ∧ C i j ∧ Q (g i j) H
def rI0 (g : Int → Int → V) : R2 := fun x y H Q => ∃ i j, x = .int i ∧ y = .int j ∧ Q (g i j) H
def rU (g : Int → V) : V → Hp → VK → Prop := fun x H Q => ∃ i, x = .int i ∧ Q (g i) H

section
variable {X : Cx} {a b c : Expr} {ta tb tc : TE} {pos : Pos}

theorem binT (ha : PE X a ta) (hb : PE X b tb) {pins : List (Addr × Obj)} {s : Shared} {σ : St} {H : Hp} {R : V → V → Hp → Prop} (I : Inv X pins σ H s)
    (h : ta σ H fun x H1 => tb σ H1 fun y H2 => R x y H2) {Q : Value → Shared → Prop} {f : Value → Value → Sem Value}
    (hf : ∀ v u s2 x y H2, Inv X pins σ H2 s2 → RelV x v → RelV y u → R x y H2 → wpAny (model X.prog X.w) X.A (f v u) Q X.xe s2) :
    wpAny (model X.prog X.w) X.A (eval a X.env) (fun v s₁ => wpAny (model X.prog X.w) X.A (eval b X.env) (fun u s₂ => wpAny (model X.prog X.w) X.A (f v u) Q X.xe s₂) X.xe s₁) X.xe s := by
  refine thn (ha pins s σ H _ I h) fun v s1 ⟨x, H1, I1, r1, q1⟩ => ?_
  refine thn (hb pins s1 σ H1 _ I1 q1) fun u s2 ⟨y, H2, I2, r2, q2⟩ => ?_
  exact hf v u s2 x y H2 I2 r1 r2 q2

theorem pe_op {op : Operator} {r : R2} (ho : OpR X (binaryOp op) r) (ha : PE X a ta) (hb : PE X b tb) : PE X (.BinOp a op b pos) (tOp r ta tb) := by
  intro pins s σ H Q I h
  exact wpAny_BinOp (binT ha hb I h fun v u s2 x y H2 I2 rx ry q => ho pins s2 σ H2 x y v u Q I2 rx ry q)
theorem pe_un {op : UnaryOp} {r : V → Hp → VK → Prop} (ho : UnR X (unaryOp op) r) (ha : PE X a ta) : PE X (.UnaryOp op a pos) (tUn r ta) := by
  intro pins s σ H Q I h
  exact UnaryOp_ (thn (ha pins s σ H _ I h) fun v s1 ⟨x, H1, I1, r1, q1⟩ => ho pins s1 σ H1 x v Q I1 r1 q1)

/-! ### ints -/
theorem opI {f : Value → Value → Sem Value} {C : Int → Int → Prop} {g : Int → Int → Int}
    (rule : ∀ (i j : Int) (t u : Tok) (s : Shared) (Q : Value → Shared → Prop) (E : Value → Shared → Prop), C i j → Q (.int (g i j) s.toks) { s with toks := s.toks + 1 } → wpAny (model X.prog X.w) X.A (f (.int i t) (.int j u)) Q E s) :
    OpR X f (rI C fun i j => .int (g i j)) := by
  intro pins s σ H x y v u Q I rx ry h
  obtain ⟨i, j, rfl, rfl, hc, q⟩ := h
  obtain ⟨t, rfl⟩ := rx
  obtain ⟨t', rfl⟩ := ry
  exact rule i j t t' s _ _ hc ⟨.int (g i j), H, I.tok _, ⟨_, rfl⟩, q⟩
theorem opI0 {f : Value → Value → Sem Value} {g : Int → Int → Int}
    (rule : ∀ (i j : Int) (t u : Tok) (s : Shared) (Q : Value → Shared → Prop) (E : Value → Shared → Prop), Q (.int (g i j) s.toks) { s with toks := s.toks + 1 } → wpAny (model X.prog X.w) X.A (f (.int i t) (.int j u)) Q E s) :
    OpR X f (rI0 fun i j => .int (g i j)) := by
  intro pins s σ H x y v u Q I rx ry h
  obtain ⟨i, j, rfl, rfl, q⟩ := h
  obtain ⟨t, rfl⟩ := rx
  obtain ⟨t', rfl⟩ := ry
  exact rule i j t t' s _ _ ⟨.int (g i j), H, I.tok _, ⟨_, rfl⟩, q⟩
theorem opB0 {f : Value → Value → Sem Value} {g : Int → Int → Bool}
    (rule : ∀ (i j : Int) (t u : Tok) (s : Shared) (Q : Value → Shared → Prop) (E : Value → Shared → Prop), Q (.bool (g i j)) s → wpAny (model X.prog X.w) X.A (f (.int i t) (.int j u)) Q E s) :
    OpR X f (rI0 fun i j => .bl (g i j)) := by
  intro pins s σ H x y v u Q I rx ry h
  obtain ⟨i, j, rfl, rfl, q⟩ := h
  obtain ⟨t, rfl⟩ := rx
  obtain ⟨t', rfl⟩ := ry
  exact rule i j t t' s _ _ ⟨.bl (g i j), H, I, rfl, q⟩

def CDiv (i j : Int) : Prop := 0 < j ∧ j < 1073741824
def CMul (i j : Int) : Prop := (-(2 ^ 64) < i ∧ i < 2 ^ 64) ∨ (-(2 ^ 64) < j ∧ j < 2 ^ 64)
theorem CMul.ok {i j : Int} (h : CMul i j) : IntMulOk i j := by
  rcases h with ⟨h1, h2⟩ | ⟨h1, h2⟩
  · exact .of_left (intBits_le_64 h1 h2)
  · exact .of_right (intBits_le_64 h1 h2)

theorem op_add : OpR X (binaryOp .Add) (rI0 fun i j => .int (i + j)) := opI0 fun _ _ _ _ _ _ _ q => add_int q
theorem op_sub : OpR X (binaryOp .Sub) (rI0 fun i j => .int (i - j)) := opI0 fun _ _ _ _ _ _ _ q => sub_int q
theorem op_mul : OpR X (binaryOp .Mult) (rI CMul fun i j => .int (i * j)) := opI fun _ _ _ _ _ _ _ hc q => mul_int q hc.ok
/-- // by a positive divisor -/
theorem op_fdiv : OpR X (binaryOp .FloorDiv) (rI CDiv fun i j => .int (i / j)) := opI fun i j _ _ _ _ _ hc q => by
  have h1 : (0 : Int) < j := hc.1
  have h2 : j < 1073741824 := hc.2
  exact floordiv_int (by omega) (by rw [Int.fdiv_eq_ediv_of_nonneg i (by omega)]; exact q) (.inl (PyProof.noPylong_small (by omega)))
/-- % by a positive divisor of any size -/
theorem op_mod : OpR X (binaryOp .Mod) (rI (fun _ j => 0 < j) fun i j => .int (i % j)) := opI fun i j _ _ _ _ _ hc q => by
  have h1 : (0 : Int) < j := hc
  exact mod_int' (by omega) (by rw [Int.fmod_eq_emod_of_nonneg i (by omega)]; exact q)


theorem unI {f : Value → Sem Value} {g : Int → Int}
    (rule : ∀ (i : Int) (t : Tok) (s : Shared) (Q : Value → Shared → Prop) (E : Value → Shared → Prop), Q (.int (g i) s.toks) { s with toks := s.toks + 1 } → wpAny (model X.prog X.w) X.A (f (.int i t)) Q E s) :
    UnR X f (rU fun i => .int (g i)) := by
  intro pins s σ H x v Q I rx h
  obtain ⟨i, rfl, q⟩ := h
  obtain ⟨t, rfl⟩ := rx
  exact rule i t s _ _ ⟨.int (g i), H, I.tok _, ⟨_, rfl⟩, q⟩
theorem un_neg : UnR X (unaryOp .USub) (rU fun i => .int (-i)) := unI fun _ _ _ _ _ q => neg_int q

/-! ### bools among ints: n += (a < b) -/
end

/-! ### comparisons -/
/-- the scalars that == tells apart as data does -/
def scal : V → V → Bool
  | .non, .non => true | .non, .int _ => true | .int _, .non => true | .non, .bl _ => true | .bl _, .non => true | .non, .str _ => true | .str _, .non => true
  | .int _, .int _ => true | .bl _, .bl _ => true | .str _, .str _ => true | .byt _, .byt _ => true
  | .int _, .str _ => true | .str _, .int _ => true | .bl _, .str _ => true | .str _, .bl _ => true
  | _, _ => false
def rEq : R2 := fun x y H Q => scal x y = true ∧ Q (.bl (decide (x = y))) H
def rNe : R2 := fun x y H Q => scal x y = true ∧ Q (.bl (!decide (x = y))) H

theorem dec_int {i j : Int} : decide (V.int i = V.int j) = (i == j) := by
  rw [Bool.eq_iff_iff]
  simp
theorem dec_bl {i j : Bool} : decide (V.bl i = V.bl j) = (i == j) := by
  rw [Bool.eq_iff_iff]
  simp
theorem dec_str {i j : Str} : decide (V.str i = V.str j) = (i == j) := by
  rw [Bool.eq_iff_iff]
  simp
theorem dec_byt {i j : Array UInt8} : decide (V.byt i = V.byt j) = (i.toList == j.toList) := by
  rw [Bool.eq_iff_iff]
  cases i
  cases j
  simp

section
variable {X : Cx} {a b c : Expr} {ta tb tc : TE} {pos : Pos}
theorem fin_bl {pins : List (Addr × Obj)} {σ : St} {H : Hp} {s : Shared} {Q : VK} {k k' : Bool} (I : Inv X pins σ H s) (q : Q (.bl k) H) (e : k = k') : EP X pins σ Q (.bool k') s := by
  subst e
  exact ⟨.bl k, H, I, rfl, q⟩
theorem op_eq : OpR X (compareOp .Eq) rEq := by
  intro pins s σ H x y v u Q I rx ry h
  obtain ⟨hs, q⟩ := h
  cases x with
  | non =>
    cases rx
    cases y with
    | non => cases ry; exact PySem.EqNone.eq_none_none (fin_bl I q (by simp))
    | bl j => cases ry; exact PySem.EqNone.eq_none_bool (fin_bl I q (by simp))
    | int j => obtain ⟨t', rfl⟩ := ry; exact PySem.EqNone.eq_none_int (fin_bl I q (by simp))
    | str j => obtain ⟨t', rfl⟩ := ry; exact PySem.EqNone.eq_none_str (fin_bl I q (by simp))
    | _ => exact absurd (show false = true from hs) Bool.false_ne_true
  | bl i =>
    cases rx
    cases y with
    | non => cases ry; exact PySem.EqNone.eq_bool_none (fin_bl I q (by simp))
    | bl j => cases ry; exact eq_bool (fin_bl I q dec_bl)
    | str j => obtain ⟨t', rfl⟩ := ry; exact PySem.EqMixed.eq_bool_str (fin_bl I q (by simp))
    | _ => exact absurd (show false = true from hs) Bool.false_ne_true
  | int i =>
    obtain ⟨t, rfl⟩ := rx
    cases y with
    | non => cases ry; exact PySem.EqNone.eq_int_none (fin_bl I q (by simp))
    | int j => obtain ⟨t', rfl⟩ := ry; exact eq_int (fin_bl I q dec_int)
    | str j => obtain ⟨t', rfl⟩ := ry; exact PySem.EqMixed.eq_int_str (fin_bl I q (by simp))
    | _ => exact absurd (show false = true from hs) Bool.false_ne_true
  | str i =>
    obtain ⟨t, rfl⟩ := rx
    cases y with
    | non => cases ry; exact PySem.EqNone.eq_str_none (fin_bl I q (by simp))
    | bl j => cases ry; exact PySem.EqMixed.eq_str_bool (fin_bl I q (by simp))
    | int j => obtain ⟨t', rfl⟩ := ry; exact PySem.EqMixed.eq_str_int (fin_bl I q (by simp))
    | str j => obtain ⟨t', rfl⟩ := ry; exact eq_str (fin_bl I q dec_str)
    | _ => exact absurd (show false = true from hs) Bool.false_ne_true
  | byt i =>
    obtain ⟨t, rfl⟩ := rx
    cases y with
    | byt j => obtain ⟨t', rfl⟩ := ry; exact PySem.W.eq_bytes (fin_bl I q dec_byt)
    | _ => exact absurd (show false = true from hs) Bool.false_ne_true
  | _ => cases y <;> exact absurd (show false = true from hs) Bool.false_ne_true
theorem op_ne : OpR X (compareOp .NotEq) rNe := by
  intro pins s σ H x y v u Q I rx ry h
  obtain ⟨hs, q⟩ := h
  cases x with
  | non =>
    cases rx
    cases y with
    | non => cases ry; exact PySem.EqNone.ne_none_none (fin_bl I q (by simp))
    | bl j => cases ry; exact PySem.EqNone.ne_none_bool (fin_bl I q (by simp))
    | int j => obtain ⟨t', rfl⟩ := ry; exact PySem.EqNone.ne_none_int (fin_bl I q (by simp))
    | str j => obtain ⟨t', rfl⟩ := ry; exact PySem.EqNone.ne_none_str (fin_bl I q (by simp))
    | _ => exact absurd (show false = true from hs) Bool.false_ne_true
  | bl i =>
    cases rx
    cases y with
    | non => cases ry; exact PySem.EqNone.ne_bool_none (fin_bl I q (by simp))
    | bl j => cases ry; exact ne_bool (fin_bl I q (congrArg not dec_bl))
    | str j => obtain ⟨t', rfl⟩ := ry; exact PySem.EqMixed.ne_bool_str (fin_bl I q (by simp))
    | _ => exact absurd (show false = true from hs) Bool.false_ne_true
  | int i =>
    obtain ⟨t, rfl⟩ := rx
    cases y with
    | non => cases ry; exact PySem.EqNone.ne_int_none (fin_bl I q (by simp))
    | int j => obtain ⟨t', rfl⟩ := ry; exact ne_int (fin_bl I q (congrArg not dec_int))
    | str j => obtain ⟨t', rfl⟩ := ry; exact PySem.EqMixed.ne_int_str (fin_bl I q (by simp))
    | _ => exact absurd (show false = true from hs) Bool.false_ne_true
  | str i =>
    obtain ⟨t, rfl⟩ := rx
    cases y with
    | non => cases ry; exact PySem.EqNone.ne_str_none (fin_bl I q (by simp))
    | bl j => cases ry; exact PySem.EqMixed.ne_str_bool (fin_bl I q (by simp))
    | int j => obtain ⟨t', rfl⟩ := ry; exact PySem.EqMixed.ne_str_int (fin_bl I q (by simp))
    | str j => obtain ⟨t', rfl⟩ := ry; exact ne_str (fin_bl I q (congrArg not dec_str))
    | _ => exact absurd (show false = true from hs) Bool.false_ne_true
  | byt i =>
    obtain ⟨t, rfl⟩ := rx
    cases y with
    | byt j => obtain ⟨t', rfl⟩ := ry; exact PySem.W.ne_bytes (fin_bl I q (congrArg not dec_byt))
    | _ => exact absurd (show false = true from hs) Bool.false_ne_true
  | _ => cases y <;> exact absurd (show false = true from hs) Bool.false_ne_true

theorem op_lt : OpR X (compareOp .Lt) (rI0 fun i j => .bl (decide (i < j))) := opB0 fun _ _ _ _ _ _ _ q => lt_int q
theorem op_gt : OpR X (compareOp .Gt) (rI0 fun i j => .bl (decide (j < i))) := opB0 fun _ _ _ _ _ _ _ q => gt_int q
theorem op_ge : OpR X (compareOp .GtE) (rI0 fun i j => .bl (decide (j ≤ i))) := opB0 fun _ _ _ _ _ _ _ q => ge_int q
/-- the one string within the other -/
theorem op_in_str : OpR X (compareOp .In) (fun x y H Q => ∃ i j, x = .str i ∧ y = .str j ∧ Q (.bl (!(Builtin.Str.occurrences j i 0 j.length 1).isEmpty)) H) := by
  intro pins s σ H x y v u Q I rx ry h
  obtain ⟨i, j, rfl, rfl, q⟩ := h
  obtain ⟨t, rfl⟩ := rx
  obtain ⟨t', rfl⟩ := ry
  exact in_str (fin_bl I q rfl)


theorem op_notin_str : OpR X (compareOp .NotIn) (fun x y H Q => ∃ i j, x = .str i ∧ y = .str j ∧ Q (.bl (!(!(Builtin.Str.occurrences j i 0 j.length 1).isEmpty))) H) := by
  intro pins s σ H x y v u Q I rx ry h
  obtain ⟨i, j, rfl, rfl, q⟩ := h
  obtain ⟨t, rfl⟩ := rx
  obtain ⟨t', rfl⟩ := ry
  exact notIn_str (fin_bl I q rfl)

/-- two rules for one operation: by cases -/
theorem OpR.or {f : Value → Value → Sem Value} {r r' : R2} (h : OpR X f r) (h' : OpR X f r') : OpR X f (fun x y H Q => r x y H Q ∨ r' x y H Q) := by
  intro pins s σ H x y v u Q I rx ry q
  rcases q with q | q
  · exact h pins s σ H x y v u Q I rx ry q
  · exact h' pins s σ H x y v u Q I rx ry q

theorem nomark (b : Expr) {op : CmpOp} (h : op ≠ .In := by decide) (h2 : op ≠ .NotIn := by decide) : behindInMarks op b = false := by
  have e1 : (op == CmpOp.In) = false := by cases op <;> first | rfl | exact absurd rfl h
  have e2 : (op == CmpOp.NotIn) = false := by cases op <;> first | rfl | exact absurd rfl h2
  cases b <;> simp [behindInMarks, e1, e2]
/-- a comparison as a value; hm: nomark b, or (for in, not in) by with_unfolding_all rfl -/
theorem pe_cmpR {op : CmpOp} {r : R2} (ho : OpR X (compareOp op) r) (ha : PE X a ta) (hb : PE X b tb) (hm : behindInMarks op b = false) : PE X (.Compare a [op] [b] pos) (tOp r ta tb) := by
  intro pins s σ H Q I h
  exact wpAny_Compare1 (binT ha hb I h fun v u s2 x y H2 I2 rx ry q => ho pins s2 σ H2 x y v u Q I2 rx ry q) hm
/-- a reading of a value as a test -/
def tTest (t : TE) : TT := fun σ H Q => t σ H fun x H' => ∃ k, x = .bl k ∧ Q k H'
theorem pt_cmpR {op : CmpOp} {r : R2} (ho : OpR X (compareOp op) r) (ha : PE X a ta) (hb : PE X b tb) (hm : behindInMarks op b = false) : PT X (.Compare a [op] [b] pos) (tTest (tOp r ta tb)) := by
  intro pins s σ H Q I h
  refine wpAny_isTrue_Compare1 (thn (ha pins s σ H _ I h) fun v s1 ⟨x, H1, I1, r1, q1⟩ => thn (hb pins s1 σ H1 _ I1 q1) fun u s2 ⟨y, H2, I2, r2, q2⟩ =>
    thn (ho pins s2 σ H2 x y v u _ I2 r1 r2 q2) fun c s3 ⟨z, H3, I3, r3, k, e, q3⟩ => ?_) hm
  subst e
  cases r3
  exact wpAny_truthy_bool ⟨H3, I3, q3⟩

/-! ### truth -/
theorem line63 : (sizeLine : Nat) < 2 ^ 63 := by rw [sizeLine_eq]; decide

/-! ### strs and bytes -/
theorem op_add_str : OpR X (binaryOp .Add) (fun x y H Q => ∃ i j, x = .str i ∧ y = .str j ∧ i.length + j.length ≤ sizeLine ∧ Q (.str (i ++ j)) H) := by
  intro pins s σ H x y v u Q I rx ry h
  obtain ⟨i, j, rfl, rfl, hz, q⟩ := h
  obtain ⟨t, rfl⟩ := rx
  obtain ⟨t', rfl⟩ := ry
  exact add_str (fun t' tk => ⟨.str (i ++ j), H, I.tok _, ⟨_, rfl⟩, q⟩) hz


/-! ### scalar builtins, by CallR -/
theorem vals1 {x : V} {us : List Value} (r : Vals [x] us) : ∃ u, us = [u] ∧ RelV x u := by
  cases r with
  | cons r1 r2 => cases r2; exact ⟨_, rfl, r1⟩
theorem vals2 {x y : V} {us : List Value} (r : Vals [x, y] us) : ∃ u w', us = [u, w'] ∧ RelV x u ∧ RelV y w' := by
  cases r with
  | cons r1 r2 =>
    cases r2 with
    | cons r3 r4 => cases r4; exact ⟨_, _, rfl, r1, r3⟩
theorem call_min2 (hc : X.calm = true) : CallR X (.builtin "min") (fun xs H Q => ∃ i j, xs = [.int i, .int j] ∧ Q (.int (if j < i then j else i)) H) := by
  intro pins s σ H xs us Q I r h
  obtain ⟨i, j, rfl, q⟩ := h
  obtain ⟨u, w', rfl, ⟨t, rfl⟩, ⟨t', rfl⟩⟩ := vals2 r
  refine min_two_ints (I.ok.hd hc) fun h' tk k => ⟨_, H, I.kept k, ?_, q⟩
  by_cases hj : j < i
  · rw [if_pos hj, if_pos hj]; exact ⟨_, rfl⟩
  · rw [if_neg hj, if_neg hj]; exact ⟨_, rfl⟩
theorem call_str_int : CallR X (.type "str") (fun xs H Q => ∃ i, xs = [.int i] ∧ i.natAbs.log2 < 1920 ∧ Q (.str (toString i)) H) := by
  intro pins s σ H xs us Q I r h
  obtain ⟨i, rfl, hz, q⟩ := h
  obtain ⟨u, rfl, t, rfl⟩ := vals1 r
  exact PySem.P.str_of_int hz ⟨.str _, H, I.tok _, ⟨_, rfl⟩, q⟩
end
end L2

namespace L2
open PySem PySem.Spec PyProof.Rows

/-! ### an instance, its attributes a map -/
structure ObjM (h : Heap) (x dx C : Addr) (mA : Str → Option Value) : Prop where
  obj : h.get? x = some (PySem.W.instObj C dx)
  ns : h.Ns1 dx mA
  ne : dx ≠ x

theorem lookIn_ns {h : Heap} {dx : Addr} {mA : Str → Option Value} (n : h.Ns1 dx mA) : ∃ od, h.get? dx = some od ∧ ∀ name, PySem.W.lookIn name od = some (mA name) := by
  obtain ⟨o, es, ep, ho, hd, hk, _, hm⟩ := n
  refine ⟨o, ho, fun name => ?_⟩
  have e := hm name
  unfold nsFind findBy at e
  rw [← Array.find?_toList] at e
  unfold PySem.W.lookIn
  rw [hd]
  dsimp only
  split
  · rename_i y q
    rw [q] at e
    exact congrArg some e
  · rename_i q
    rw [q] at e
    have a : es.toList.any (·.refKey) = false := by
      rw [List.any_eq_false]
      intro y hy
      obtain ⟨z, t, hkey⟩ := hk y (Array.mem_toList_iff.mp hy)
      simp [DictEntry.refKey, hkey]
    have a' : ¬ es.toList.any (·.refKey) = true := by rw [a]; exact Bool.false_ne_true
    rw [if_neg a']
    exact congrArg some e

theorem ObjM.look {h : Heap} {x dx C : Addr} {mA : Str → Option Value} (I : ObjM h x dx C mA) : ∃ od, PySem.W.InstAt h x (PySem.W.instObj C dx) C (some od) ∧ ∀ name, PySem.W.lookIn name od = some (mA name) :=
  let ⟨od, ho, hl⟩ := lookIn_ns I.ns
  ⟨od, ⟨I.obj, rfl, rfl, ho⟩, hl⟩

section
variable {prog : Program} {w : World} {A : Around} {E : Value → Shared → Prop} {s : Shared} {K : PySem.W.Frag} {x dx C f : Addr} {mA : Str → Option Value} {name : Str} {v : Value}

theorem get_map {expr : Bool} {Q : Value → Shared → Prop} (X : K.In s.heap) (I : ObjM s.heap x dx C mA) (hg : PySem.W.plainGet K C name = true) (hh : PySem.W.hasDictIn K C = true)
    (ha : PySem.W.findIn K (.ref C) name = some none) (hv : mA name = some v) (hv' : PySem.W.handedIn v = true) (h : Q v { s with toks := s.toks + 1 }) :
    wpAny (model prog w) A (getAttr (.ref x) name expr) Q E s := by
  obtain ⟨od, J, hl⟩ := I.look
  exact PySem.W.get_value X J (PySem.W.plainGet_of hg).1 (PySem.W.findObj_own hh ha rfl (by rw [hl, hv])) hv' h



theorem set_map {ns : List Str} {Q : Unit → Shared → Prop} (X : K.In s.heap) (I : ObjM s.heap x dx C mA)
    (hs : PySem.W.findIn K (.ref C) "__setattr__" = some (some (.builtin "object.__setattr__"))) (hp : PySem.W.plainOver K C = true) (ht : PySem.W.takerIn K C name = some none) (hh : PySem.W.hasDictIn K C = true)
    (hw : PySem.Within mA ns) (hsz : ns.length ≤ sizeLine)
    (h : ∀ h', ObjM h' x dx C (fun y => if y = name then some v else mA y) → Heap.SameBut dx s.heap h' → Q () { s with heap := h', toks := s.toks + 2 }) :
    wpAny (model prog w) A (setAttr (.ref x) name v) Q E s := by
  obtain ⟨od, J, hl⟩ := I.look
  refine PySem.W.set_plain X J hs (PySem.W.osa_open (s := { s with toks := s.toks + 1 }) (r := none) X J hp ht fun b => ?_)
  obtain ⟨cd, hc, hd'⟩ := PySem.W.any_some hh
  have hx : s.heap.get? x = some ⟨.ref C, some dx, .plain, #[]⟩ := I.obj
  refine wpAny_bind (wpAny_pure (wpAny_bind (wpAny_bind (wpAny_loadPart hx (wpAny_bind (PySem.W.Looks.here (s := { s with toks := s.toks + 1 }) (PySem.W.looks_clsIn X hc) ?_))))))
  rw [hd']
  refine wpAny_pure (a := some dx) (wpAny_bind (wpAny_pure (wpAny_bind ?_)))
  refine wpAny_nsSet1 (s := { s with toks := s.toks + 1 }) I.ns fun h' hn2 hs2 => ?_
  obtain ⟨oD, esD, epD, hoD, hdD, hcD⟩ := hn2.count (PySem.Within.cons name v hw)
  refine wpAny_bind (wpAny_lookBehind hoD (by rw [hdD]; exact pastItsLine_dict (Nat.le_trans hcD (by rw [List.length_cons]; omega))) ?_)
  exact wpAny_pure (h _ ⟨(hs2.2 _ (Ne.symm I.ne)).trans I.obj, hn2, I.ne⟩ hs2)

/-- C(..): the dict at the heap's end, the instance behind it; then its __init__ -/
theorem make_map {R : Result → Shared → Prop} {vs : List Value} {kw : List (Str × Value)} (X : K.In s.heap) (hm : PySem.W.makesIn K C = true)
    (hi : PySem.W.findIn K (.ref C) "__init__" = some (some (.ref f))) (hf : PySem.W.typeIn K (.ref f) = some (.type "function"))
    (h : codeAny (model prog w) (A.under (.builtin "type.__call__" ⟨.ref C :: vs, kw⟩)) (.call (.ref f) ⟨.ref (s.heap.objs.size + 1) :: vs, kw⟩) (PySem.W.InitBack (s.heap.objs.size + 1) R)
      { s with heap := (s.heap.push PySem.W.emptyDict).push (PySem.W.instObj C s.heap.objs.size) }) :
    codeAny (model prog w) A (.call (.ref C) ⟨vs, kw⟩) R s := by
  obtain ⟨hh, g, d, t, os⟩ := s
  exact PySem.W.make_core (PySem.W.makes_of X hm) (PySem.W.looks_findIn X hi) (fun self => PySem.W.bind_fn X self hf) (.inl rfl) h
end

/-! ### the attributes as a list of pairs -/
def putF (f : Str) (v : V) : List (Str × V) → List (Str × V)
  | [] => [(f, v)]
  | (g, x) :: r => if g = f then (g, v) :: r else (g, x) :: putF f v r
theorem lookup_putF (f g : Str) (v : V) : ∀ fs : List (Str × V), (putF f v fs).lookup g = if g = f then some v else fs.lookup g
  | [] => by
    show List.lookup g [(f, v)] = _
    by_cases h : g = f
    · have hb : (g == f) = true := beq_iff_eq.mpr h
      simp only [List.lookup, hb, if_pos h]
    · have hb : (g == f) = false := beq_eq_false_iff_ne.mpr h
      simp only [List.lookup, hb, if_neg h]
  | (k, x) :: r => by
    have ih := lookup_putF f g v r
    rw [show putF f v ((k, x) :: r) = (if k = f then (k, v) :: r else (k, x) :: putF f v r) from rfl]
    by_cases hk : k = f
    · rw [if_pos hk]
      by_cases h : g = k
      · have hb : (g == k) = true := beq_iff_eq.mpr h
        simp only [List.lookup, hb, if_pos (h.trans hk)]
      · have hb : (g == k) = false := beq_eq_false_iff_ne.mpr h
        simp only [List.lookup, hb, if_neg (fun e : g = f => h (e.trans hk.symm))]
    · rw [if_neg hk]
      by_cases h : g = k
      · have hb : (g == k) = true := beq_iff_eq.mpr h
        simp only [List.lookup, hb, if_neg (fun e : g = f => hk (h.symm.trans e))]
      · have hb : (g == k) = false := beq_eq_false_iff_ne.mpr h
        simp only [List.lookup, hb]
        exact ih
theorem keys_putF (f : Str) (v : V) : ∀ fs : List (Str × V), f ∈ (putF f v fs).map (·.1) ∧ ∀ g, g ∈ fs.map (·.1) → g ∈ (putF f v fs).map (·.1)
  | [] => ⟨by simp [putF], fun g h => by simp at h⟩
  | (k, x) :: r => by
    obtain ⟨i1, i2⟩ := keys_putF f v r
    rw [show putF f v ((k, x) :: r) = (if k = f then (k, v) :: r else (k, x) :: putF f v r) from rfl]
    by_cases hk : k = f
    · rw [if_pos hk]
      subst hk
      exact ⟨by simp, fun g h => by simpa using h⟩
    · rw [if_neg hk]
      refine ⟨?_, fun g h => ?_⟩
      · rw [List.map_cons]
        exact List.mem_cons_of_mem _ i1
      · rw [List.map_cons] at h ⊢
        rcases List.mem_cons.mp h with e | e
        · exact List.mem_cons.mpr (.inl e)
        · exact List.mem_cons_of_mem _ (i2 g e)
theorem length_putF (f : Str) (v : V) : ∀ fs : List (Str × V), (putF f v fs).length ≤ fs.length + 1
  | [] => by simp [putF]
  | (k, x) :: r => by
    have ih := length_putF f v r
    rw [show putF f v ((k, x) :: r) = (if k = f then (k, v) :: r else (k, x) :: putF f v r) from rfl]
    by_cases hk : k = f
    · rw [if_pos hk, List.length_cons, List.length_cons]; omega
    · rw [if_neg hk, List.length_cons, List.length_cons]; omega

theorem RelO.some_of {v : V} {o : Option Value} (r : RelO (some v) o) : ∃ u, o = some u ∧ RelV v u := by
  cases o with
  | none => exact (show False from r).elim
  | some u => exact ⟨u, rfl, r⟩
theorem handed_of {v : V} {u : Value} (r : RelV v u) : PySem.W.handedIn u = true := by
  cases v with
  | non => cases (show u = Value.none from r); rfl
  | bl b => cases (show u = Value.bool b from r); rfl
  | int i => obtain ⟨t, e⟩ := (show ∃ t, u = Value.int i t from r); cases e; rfl
  | str x => obtain ⟨t, e⟩ := (show ∃ t, u = Value.str x t from r); cases e; rfl
  | byt b => obtain ⟨t, e⟩ := (show ∃ t, u = Value.bytes b t from r); cases e; rfl
  | flt b => obtain ⟨t, e⟩ := (show ∃ t, u = Value.float b t from r); cases e; rfl
  | ref a => cases (show u = Value.ref a from r); rfl
  | ty n => cases (show u = Value.type n from r); rfl

section
variable {P : Program} {w : World} {H H' : Hp} {h h' : Heap} {a C dx : Addr} {fs fs' : List (Str × V)}
theorem ins_get (hok : HOk P w H h) (e : H a = some (.ins C dx fs)) : ∃ mA, ObjM h a dx C mA ∧ (∀ f, RelO (fs.lookup f) (mA f)) ∧ PySem.Within mA (fs.map (·.1)) ∧ fs.length ≤ 1000 ∧ H dx = some (.own a) := by
  obtain ⟨d, z, ne, ob, mA, n, r, q⟩ := (show ObjOk P w H h a (.ins C dx fs) from hok a _ e)
  exact ⟨mA, ⟨ob, n, ne⟩, r, q, z, d⟩
end

/-! ### what of the text a class must have -/
structure Cls (K : PySem.W.Frag) (C : Addr) : Prop where
  pg : PySem.W.plainGet K C Str.empty = true
  hd : PySem.W.hasDictIn K C = true
  po : PySem.W.plainOver K C = true
  sa : PySem.W.findIn K (.ref C) "__setattr__" = some (some (.builtin "object.__setattr__"))
theorem Cls.get {K : PySem.W.Frag} {C : Addr} (c : Cls K C) (f : Str) : PySem.W.plainGet K C f = true := c.pg
/-- no class of it has the name -/
def NoAttr (K : PySem.W.Frag) (C : Addr) (f : Str) : Prop := PySem.W.findIn K (.ref C) f = some none
theorem NoAttr.taker {K : PySem.W.Frag} {C : Addr} {f : Str} (n : NoAttr K C f) : PySem.W.takerIn K C f = some none := by
  unfold PySem.W.takerIn
  rw [show PySem.W.findIn K (.ref C) f = some none from n]
  rfl
/-- a constant of the class -/
structure Con (K : PySem.W.Frag) (C : Addr) (f : Str) (v : V) (u : Value) : Prop where
  at_ : PySem.W.findIn K (.ref C) f = some (some u)
  rel : RelV v u
  get : PySem.W.specialIn K u "__get__" = some none
  cp : PySem.W.copiedNames.contains f = false
/-- a method: a plain def of the class or of one above it -/
structure Meth (K : PySem.W.Frag) (C : Addr) (m : Str) (f : Addr) : Prop where
  at_ : PySem.W.findIn K (.ref C) m = some (some (.ref f))
  fn : PySem.W.isFn K (.ref f) = true
  kp : PySem.W.keepIn K (.ref f) = true

section
variable {X : Cx} {pins : List (Addr × Obj)} {σ : St} {H : Hp} {s : Shared} {a C dx : Addr} {fs : List (Str × V)} {f : Str} {v : V} {A : Around} {E : Value → Shared → Prop}

theorem getattr_ok {b : Bool} {Q : Value → Shared → Prop} (I : Inv X pins σ H s) (e : H a = some (.ins C dx fs)) (c : Cls X.K C) (n : NoAttr X.K C f) (l : fs.lookup f = some v)
    (h : ∀ u s', Inv X pins σ H s' → RelV v u → Q u s') : wpAny (model X.prog X.w) A (getAttr (.ref a) f b) Q E s := by
  obtain ⟨mA, O, r, _, _, _⟩ := ins_get I.hok e
  obtain ⟨u, hu, ru⟩ := RelO.some_of (v := v) (o := mA f) (by rw [← l]; exact r f)
  exact get_map I.kIn O (c.get f) c.hd n hu (handed_of ru) (h u _ (I.tok _) ru)



theorem setattr_ok {y : V} {u : Value} {Q : Unit → Shared → Prop} (I : Inv X pins σ H s) (e : H a = some (.ins C dx fs)) (c : Cls X.K C) (n : NoAttr X.K C f) (hl : fs.length < 1000) (ry : RelV y u)
    (h : ∀ s', Inv X pins σ (upd H a (.ins C dx (putF f y fs))) s' → Q () s') : wpAny (model X.prog X.w) A (setAttr (.ref a) f u) Q E s := by
  obtain ⟨mA, O, r, wi, _, ho⟩ := ins_get I.hok e
  have hz : (fs.map (·.1)).length ≤ sizeLine := by rw [List.length_map, sizeLine_eq]; omega
  refine set_map I.kIn O c.sa c.po n.taker c.hd wi hz fun h' O' sb => h _ ?_
  have hd : ∃ o, h'.get? dx = some o := let ⟨o, _, _, e', _⟩ := O'.ns; ⟨o, e'⟩
  refine I.write (x := a) (e := dx) (by rw [e]; exact True.intro) (.inr ho) (fun b q hb z => (sb.2 b hb).trans z) hd ?_
  refine ⟨by rw [upd_ne O.ne]; exact ho, ?_, O.ne, O'.obj, _, O'.ns, fun g => ?_, fun g hg => ?_⟩
  · have := length_putF f y fs; omega
  · show RelO ((putF f y fs).lookup g) (if g = f then some u else mA g)
    rw [lookup_putF]
    by_cases q : g = f
    · rw [if_pos q, if_pos q]; exact ry
    · rw [if_neg q, if_neg q]; exact r g
  · by_cases q : g = f
    · rw [q]; exact (keys_putF f y fs).1
    · refine (keys_putF f y fs).2 g (wi g fun z => hg ?_)
      show (if g = f then some u else mA g) = none
      rw [if_neg q]; exact z

/-- a new instance, tracked, without attributes -/
theorem Inv.made (I : Inv X pins σ H s) : Inv X pins σ (upd (upd H s.heap.objs.size (.own (s.heap.objs.size + 1))) (s.heap.objs.size + 1) (.ins C s.heap.objs.size []))
    { s with heap := (s.heap.push PySem.W.emptyDict).push (PySem.W.instObj C s.heap.objs.size) } := by
  have e1 : (s.heap.push PySem.W.emptyDict).get? s.heap.objs.size = some PySem.W.emptyDict := Heap.get?_push_size s.heap rfl
  have e2 : ((s.heap.push PySem.W.emptyDict).push (PySem.W.instObj C s.heap.objs.size)).get? (s.heap.objs.size + 1) = some (PySem.W.instObj C s.heap.objs.size) := by
    have := Heap.get?_push_size (s.heap.push PySem.W.emptyDict) (o := PySem.W.instObj C s.heap.objs.size) rfl
    rwa [Heap.size_push] at this
  have e3 : (s.heap.push PySem.W.emptyDict).Ns s.heap.objs.size (fun _ => none) := ⟨PySem.W.emptyDict, #[], _, e1, rfl, (fun e he => absurd he (by simp)), fun _ => rfl⟩
  have I1 := I.laid (a := s.heap.objs.size) (o := .own (s.heap.objs.size + 1)) (h' := s.heap.push PySem.W.emptyDict) (t' := s.toks) (fun b u q => Heap.get?_push_of_some _ q) (Nat.le_refl _) ⟨_, e1⟩
  refine I1.laid (a := s.heap.objs.size + 1) (o := .ins C s.heap.objs.size []) (t' := s.toks) (fun b u q => Heap.get?_push_of_some _ q) (Nat.le_of_eq (Heap.size_push _ _)) ?_
  have ne : s.heap.objs.size ≠ s.heap.objs.size + 1 := Nat.ne_of_lt (Nat.lt_succ_self _)
  refine ⟨by rw [upd_ne ne, upd_same], Nat.zero_le _, ne, e2, fun _ => none, (Heap.Ns1.of_empty e3).at fun o q => Heap.get?_push_of_some _ q, fun _ => True.intro, fun y hy => absurd rfl hy⟩

/-- e.f where nothing but the object is asked: through attributeBase (super) and the last hold -/
theorem attr_of {prog : Program} {w : World} {env : Env} {e : Expr} {f : Str} {pos : Pos} {s : Shared} {Q : Value → Shared → Prop} (hb : attributeBase e f env (eval e env) = eval e env)
    (h : wpAny (model prog w) A (eval e env) (fun o s₁ => wpAny (model prog w) A (getAttr o f true) Q E s₁) E s) : wpAny (model prog w) A (eval (.Attribute e f pos) env) Q E s :=
  Attribute_any_ h (by rw [arm_eval_Attribute, hb])
end

/-! ### readings and rules -/
/-- e.f, an attribute of the instance -/
def tFld (K : PySem.W.Frag) (ta : TE) (f : Str) : TE := fun σ H Q => ta σ H fun x H1 => ∃ a C dx fs v, x = .ref a ∧ H1 a = some (.ins C dx fs) ∧ Cls K C ∧ NoAttr K C f ∧ fs.lookup f = some v ∧ Q v H1
/-- e.f = value -/
def sFld (K : PySem.W.Frag) (ta tv : TE) (f : Str) : TS := fun D σ H => tv σ H fun y H1 => ta σ H1 fun x H2 => ∃ a C dx fs, x = .ref a ∧ H2 a = some (.ins C dx fs) ∧ Cls K C ∧ NoAttr K C f ∧ fs.length < 1000 ∧
  D.nx σ (upd H2 a (.ins C dx (putF f y fs)))

section
variable {X : Cx} {o e value : Expr} {f : Str} {pos pos' tpos : Pos} {ta tv : TE}
theorem pe_fld (he : PE X e ta) (hb : attributeBase e f X.env (eval e X.env) = eval e X.env) : PE X (.Attribute e f pos) (tFld X.K ta f) := by
  intro pins s σ H Q I h
  refine attr_of hb (thn (he pins s σ H _ I h) fun u s1 ⟨x, H1, I1, rx, a, C, dx, fs, v, ex, ea, c, n, l, q⟩ => ?_)
  subst ex
  obtain rfl : u = Value.ref a := rx
  exact getattr_ok I1 ea c n l fun u' s2 I2 ru => ⟨v, H1, I2, ru, q⟩
theorem ps_fld (ha : PE X o ta) (hv : PE X value tv) (hs : swapsWith value (some (.Attribute o f pos')) pos.line X.env = pure false) : PS X (.Assign [.Attribute o f pos'] value pos) (sFld X.K ta tv f) := by
  intro pins s σ H D I h
  refine plainObj_wpAny_Assign_Attribute (thn (hv pins s σ H _ I h) fun u s1 ⟨y, H1, I1, ry, q⟩ => thn (ha pins s1 σ H1 _ I1 q) fun ov s2 ⟨x, H2, I2, rx, a, C, dx, fs, ex, ea, c, n, l, q2⟩ => ?_) hs
  subst ex
  obtain rfl : ov = Value.ref a := rx
  exact setattr_ok I2 ea c n l ry fun s3 I3 => ⟨σ, _, I3, q2⟩

end

/-! ### isinstance -/
section
variable {X : Cx} {pins : List (Addr × Obj)} {σ : St} {H : Hp} {s : Shared} {A : Around} {E : Value → Shared → Prop} {Q : Value → Shared → Prop} {c : Value} {b : Bool}
/-- the type of a value, as the fragment's deciders take it; for an instance its class -/
inductive TyOf (K : PySem.W.Frag) (H : Hp) : V → Value → Prop where
  | non : TyOf K H .non (.type "NoneType")
  | bl (x : Bool) : TyOf K H (.bl x) (.type "bool")
  | int (i : Int) : TyOf K H (.int i) (.type "int")
  | str (x : Str) : TyOf K H (.str x) (.type "str")
  | flt (x : UInt64) : TyOf K H (.flt x) (.type "float")
  | lst {a : Addr} {xs : List V} (e : H a = some (.lst xs)) : TyOf K H (.ref a) (.type "list")
  | frz {a : Addr} {o : Obj} {xs : List V} (e : H a = some (.frz o (.lst xs))) : TyOf K H (.ref a) (.type "list")
  | tup {a : Addr} {xs : List V} (e : H a = some (.tup xs)) : TyOf K H (.ref a) (.type "tuple")
  | dK {a : Addr} {kvs : List (Key × V)} (e : H a = some (.dK kvs)) : TyOf K H (.ref a) (.type "dict")
  | dT {a : Addr} {kvs : List (List Key × V)} (e : H a = some (.dT kvs)) : TyOf K H (.ref a) (.type "dict")
  | ins {a C dx : Addr} {fs : List (Str × V)} (e : H a = some (.ins C dx fs)) (cl : Cls K C) (ha : PySem.W.findIn K (.ref C) "__class__" = some (some (.builtin "object.__class__")))
      (hn : PySem.W.specialIn K (.builtin "object.__class__") "__get__" = some (some (.builtin "getset_descriptor.__get__"))) (htk : PySem.W.takesIn K (.builtin "object.__class__") = some true)
      (hm : PySem.W.mroIn K C (.type "object") = some true) : TyOf K H (.ref a) (.ref C)
/-- isinstance(x, c) for one class c, a built-in or an own one: kitOne's answer -/
theorem isinst_ok {x : V} {u t : Value} (I : Inv X pins σ H s) (rx : RelV x u) (ty : TyOf X.K H x t) (e : PySem.W.kitOne X.K t c = some b) (h : ∀ tk, Q (.bool b) { s with toks := tk }) :
    wpAny (model X.prog X.w) A (call (.builtin "isinstance") [u, c]) Q E s := by
  cases ty with
  | non => cases (show u = Value.none from rx); exact PySem.W.kia_one PySem.W.kitx_none I.kIn True.intro e (fun z => nomatch z) h
  | bl y => cases (show u = Value.bool y from rx); exact PySem.W.kia_one PySem.W.kitx_bool I.kIn True.intro e (fun z => nomatch z) h
  | int i => obtain ⟨t, q⟩ := (show ∃ t, u = Value.int i t from rx); cases q; exact PySem.W.kia_one PySem.W.kitx_int I.kIn True.intro e (fun z => nomatch z) h
  | str y => obtain ⟨t, q⟩ := (show ∃ t, u = Value.str y t from rx); cases q; exact PySem.W.kia_one PySem.W.kitx_str I.kIn True.intro e (fun z => nomatch z) h
  | flt y => obtain ⟨t, q⟩ := (show ∃ t, u = Value.float y t from rx); cases q; exact PySem.W.kia_one PySem.W.kitx_float I.kIn True.intro e (fun z => nomatch z) h
  | @lst a xs ea =>
    cases (show u = Value.ref a from rx)
    obtain ⟨_, _, n, _, h1⟩ := (show ObjOk X.prog X.w H s.heap a (.lst xs) from I.hok a _ ea)
    exact PySem.W.kia_one PySem.W.kitx_list I.kIn ⟨_, h1, rfl⟩ e (fun z => nomatch z) h
  | @frz a ob xs ea =>
    cases (show u = Value.ref a from rx)
    obtain ⟨_, _, _, n, _, h1⟩ := (show ObjOk X.prog X.w H s.heap a (.frz ob (.lst xs)) from I.hok a _ ea)
    exact PySem.W.kia_one PySem.W.kitx_list I.kIn ⟨_, h1, rfl⟩ e (fun z => nomatch z) h
  | @tup a xs ea =>
    cases (show u = Value.ref a from rx)
    obtain ⟨_, _, _, p⟩ := (show ObjOk X.prog X.w H s.heap a (.tup xs) from I.hok a _ ea)
    obtain ⟨o, h1, h2, _⟩ := p
    exact PySem.W.kia_one PySem.W.kitx_tuple I.kIn ⟨o, h1, h2⟩ e (fun z => nomatch z) h
  | @dK a kvs ea =>
    cases (show u = Value.ref a from rx)
    obtain ⟨_, _, vs, _, p⟩ := (show ObjOk X.prog X.w H s.heap a (.dK kvs) from I.hok a _ ea)
    obtain ⟨o, es, ep, h1, h2, _⟩ := p
    exact PySem.W.kia_one PySem.W.kitx_dict I.kIn ⟨o, h1, h2.1⟩ e (fun z => nomatch z) h
  | @dT a kvs ea =>
    cases (show u = Value.ref a from rx)
    obtain ⟨_, _, xs, _, o, es, ep, h1, h2, _⟩ := (show ObjOk X.prog X.w H s.heap a (.dT kvs) from I.hok a _ ea)
    exact PySem.W.kia_one PySem.W.kitx_dict I.kIn ⟨o, h1, h2.1⟩ e (fun z => nomatch z) h
  | @ins a C dx fs ea cl ha hn htk hm =>
    cases (show u = Value.ref a from rx)
    obtain ⟨mA, O, _⟩ := ins_get I.hok ea
    obtain ⟨od, J, _⟩ := O.look
    exact PySem.W.kia_one (PySem.W.kitx_own (cl.get _) cl.hd ha hn htk hm) I.kIn J e (fun z => nomatch z) h
end
end L2

namespace L2
open PySem PySem.Spec PyProof.Rows

/-! ### room -/
structure Room (k : Nat) (A : Around) : Prop where
  hd : A.handled = none
  dp : A.depth + 3 * k + 5 < recursionLimit
  un : A.units + 16 * k + 200 < cLine
theorem Room.mono {j k : Nat} {A : Around} (r : Room k A) (h : j ≤ k) : Room j A := ⟨r.hd, by have := r.dp; omega, by have := r.un; omega⟩
theorem Room.deeper {k : Nat} {A : Around} (r : Room (k + 1) A) (env : Env) : Room k (A.deeper env) :=
  ⟨r.hd, by have := r.dp; show A.depth + 1 + 3 * k + 5 < _; omega, by have := r.un; show A.units + 3 + 16 * k + 200 < _; omega⟩
theorem Room.in1 {k : Nat} {A : Around} (r : Room (k + 1) A) : Room k A.in1 :=
  ⟨r.hd, by have := r.dp; show A.depth + 3 * k + 5 < _; omega, by have := r.un; show A.units + 1 + 16 * k + 200 < _; omega⟩
theorem make_depth {A : Around} {C : Addr} {us : List Value} {kw : List (Str × Value)} : (A.under (.builtin "type.__call__" ⟨.ref C :: us, kw⟩)).depth = A.depth + 1 := by
  first | rfl | simp [Around.under, Code.weight, Code.isCreation, Code.isGuard, Code.isCaller, Code.frames, Code.isFrame, guardIds]
theorem make_units {A : Around} {C : Addr} {us : List Value} {kw : List (Str × Value)} : (A.under (.builtin "type.__call__" ⟨.ref C :: us, kw⟩)).units = A.units + 1 := by
  first | rfl | simp [Around.under, Code.cUnits, Code.frames, Code.isFrame]
theorem Room.make {k : Nat} {A : Around} (r : Room (k + 1) A) (C : Addr) (us : List Value) (kw : List (Str × Value)) : Room k (A.under (.builtin "type.__call__" ⟨.ref C :: us, kw⟩)) :=
  ⟨r.hd, by have := r.dp; rw [make_depth]; omega, by have := r.un; rw [make_units]; omega⟩
theorem Room.depth {k : Nat} {A : Around} (r : Room k A) : A.depth < recursionLimit := by have := r.dp; omega
theorem Room.units {k : Nat} {A : Around} (r : Room k A) : A.units + 64 < cLine := by have := r.un; omega

/-! ### argument lists and displays -/
def tNil : TA := fun _ H Q => Q [] H
def tCons (ta : TE) (tr : TA) : TA := fun σ H Q => ta σ H fun x H1 => tr σ H1 fun xs H2 => Q (x :: xs) H2
section
variable {X : Cx} {e : Expr} {es : List Expr} {te : TE} {t : TA} {pos : Pos}
theorem pa_nil : PA X [] tNil := fun _ _ _ _ H Q I h => Calls.spliced_nil ⟨[], H, I, .nil, h⟩
theorem pa_cons (ha : PE X e te) (hr : PA X es t) (hs : starEach (e :: es) X.env = (false, eval e X.env) :: starEach es X.env := by rfl) : PA X (e :: es) (tCons te t) := by
  intro pos pins s σ H Q I h
  rw [hs]
  show wpAny _ _ (spliced ((false, eval e X.env) :: backTo pos (starEach es X.env))) _ _ s
  refine Calls.spliced_cons (thn (ha pins s σ H _ I h) fun u s1 ⟨x, H1, I1, r1, q1⟩ => ?_)
  exact thn (hr pos pins s1 σ H1 _ I1 q1) fun us s2 ⟨xs, H2, I2, r2, q2⟩ => ⟨x :: xs, H2, I2, .cons r1 r2, q2⟩

/-- a tuple, a list of written items -/
def tTup (t : TA) : TE := fun σ H Q => t σ H fun xs H1 => xs.length ≤ sizeLine ∧ ∀ p, H1 p = none → Q (.ref p) (upd H1 p (.tup xs))
def tLst (t : TA) : TE := fun σ H Q => t σ H fun xs H1 => xs.length ≤ sizeLine ∧ ∀ p, H1 p = none → Q (.ref p) (upd H1 p (.lst xs))
theorem pe_tup {x1} (h : PA X es t) : PE X (.Tuple es x1 pos) (tTup t) := by
  intro pins s σ H Q I hq
  refine wpAny_Tuple_spliced (thn (h pos pins s σ H _ I hq) fun us s1 ⟨xs, H1, I1, r, z, q⟩ => ⟨by rw [← r.length]; exact z, ?_⟩)
  have hf : H1 s1.heap.objs.size = none := I1.hok.fresh (Nat.le_refl _)
  refine ⟨.ref s1.heap.objs.size, upd H1 s1.heap.objs.size (.tup xs), I1.laid (t' := s1.toks) (fun b u e => Heap.get?_push_of_some _ e) (Nat.le_refl _) ?_, rfl, q _ hf⟩
  exact ⟨z, us, r, ⟨_, Heap.get?_push_size _ rfl, rfl, _, rfl⟩⟩
theorem pe_lst (h : PA X es t) : PE X (.List es pos) (tLst t) := by
  intro pins s σ H Q I hq
  refine wpAny_List_spliced (thn (h pos pins s σ H _ I hq) fun us s1 ⟨xs, H1, I1, r, z, q⟩ => ⟨by rw [← r.length]; exact z, ?_⟩)
  have hf : H1 s1.heap.objs.size = none := I1.hok.fresh (Nat.le_refl _)
  refine ⟨.ref s1.heap.objs.size, upd H1 s1.heap.objs.size (.lst xs), I1.laid (t' := s1.toks) (fun b u e => Heap.get?_push_of_some _ e) (Nat.le_refl _) ?_, rfl, q _ hf⟩
  exact ⟨z, us, 0, r, Heap.get?_push_size _ rfl⟩
end

/-! ### what a def promises -/
/-- a def's promise: the bound arguments in the parameters' order, the heap, the wanted end, the wanted exception -/
abbrev Sp := List V → Hp → VK → XK → Prop
/-- how an exception lies behind a call (file 08 gives it): the callers' frames, abstract heap and state ahead of the call, the wish, the exception, the state -/
abbrev CXT := List Env → Hp → Shared → XK → Value → Shared → Prop

/-- the state at a call -/
structure Env0 (P : Program) (w : World) (K : PySem.W.Frag) (mg : Str → Option Value) (base : Heap) (A : Around) (outer : List Env) (s : Shared) (H : Hp) : Prop where
  frames : A.frames = some outer
  mod : Mod K mg base
  bs : ∀ b o, base.get? b = some o → s.heap.get? b = some o ∧ H b = none
  bsz : base.objs.size ≤ s.heap.objs.size
  funs : s.heap.FunFrames base outer
  frf : ∀ b ∈ frs outer, H b = none
  hok : HOk P w H s.heap
  bare : AllBare s.gens
/-- a call's end -/
def CE (outer : List Env) (P : Program) (w : World) (H : Hp) (s : Shared) (Q : VK) (u : Value) (s' : Shared) : Prop :=
  ∃ v H', s'.os = s.os ∧ AllBare s'.gens ∧ Un (frs outer) [] H H' s.heap s'.heap ∧ HOk P w H' s'.heap ∧ RelV v u ∧ Q v H'
def CR (CX : CXT) (outer : List Env) (P : Program) (w : World) (H : Hp) (s : Shared) (Q : VK) (E : XK) (r : Result) (s' : Shared) : Prop :=
  match r with
  | .ok (.ret u) => CE outer P w H s Q u s'
  | .ok _ => False
  | .error e => CX outer H s E e s'
structure FnOk (P : Program) (w : World) (K : PySem.W.Frag) (mg : Str → Option Value) (base : Heap) (CX : CXT) (k : Nat) (f : Addr) (fd : FuncData) (ps : List Str) (sp : Sp) : Prop where
  len : ∀ vs H Q E, sp vs H Q E → vs.length = ps.length
  run : ∀ (A : Around) (outer : List Env) (s : Shared) (H : Hp) (args : Args) (us : List Value) (vs : List V) (Q : VK) (E : XK), Room k A → Env0 P w K mg base A outer s H → BindsTo s fd args (ps.zip us) → Vals vs us → sp vs H Q E →
    codeAny (model P w) A (.call (.ref f) args) (CR CX outer P w H s Q E) s
theorem FnOk.mono {P : Program} {w : World} {K : PySem.W.Frag} {mg : Str → Option Value} {base : Heap} {CX : CXT} {j k : Nat} {f : Addr} {fd : FuncData} {ps : List Str} {sp : Sp} (F : FnOk P w K mg base CX j f fd ps sp) (h : j ≤ k) :
    FnOk P w K mg base CX k f fd ps sp := ⟨F.len, fun A outer s H args us vs Q E hr => F.run A outer s H args us vs Q E (hr.mono h)⟩
/-- a weaker promise -/
theorem FnOk.imp {P : Program} {w : World} {K : PySem.W.Frag} {mg : Str → Option Value} {base : Heap} {CX : CXT} {k : Nat} {f : Addr} {fd : FuncData} {ps : List Str} {sp sp' : Sp} (F : FnOk P w K mg base CX k f fd ps sp)
    (h : ∀ vs H Q E, sp' vs H Q E → sp vs H Q E) : FnOk P w K mg base CX k f fd ps sp' :=
  ⟨fun vs H Q E q => F.len vs H Q E (h _ _ _ _ q), fun A outer s H args us vs Q E hr he hb hv hs => F.run A outer s H args us vs Q E hr he hb hv (h _ _ _ _ hs)⟩

theorem Env0.make {P : Program} {w : World} {K : PySem.W.Frag} {mg : Str → Option Value} {base : Heap} {A : Around} {outer : List Env} {s : Shared} {H : Hp} (e : Env0 P w K mg base A outer s H) (C : Addr) (us : List Value) (kw : List (Str × Value)) :
    Env0 P w K mg base (A.under (.builtin "type.__call__" ⟨.ref C :: us, kw⟩)) outer s H := ⟨by first | exact e.frames | (simpa [Around.under, Code.envs, Code.isFrame, pushEnvs] using e.frames), e.mod, e.bs, e.bsz, e.funs, e.frf, e.hok, e.bare⟩
theorem Env0.in1 {P : Program} {w : World} {K : PySem.W.Frag} {mg : Str → Option Value} {base : Heap} {A : Around} {outer : List Env} {s : Shared} {H : Hp} (e : Env0 P w K mg base A outer s H) :
    Env0 P w K mg base A.in1 outer s H := ⟨e.frames, e.mod, e.bs, e.bsz, e.funs, e.frf, e.hok, e.bare⟩

section
variable {X : Cx} {pins : List (Addr × Obj)} {σ : St} {H : Hp} {s s' : Shared}
/-- from a body: what a callee wants -/
theorem Inv.env0 (I : Inv X pins σ H s) : Env0 X.prog X.w X.K X.mg X.base X.A X.stack s H :=
  ⟨I.ok.frames, I.ok.mod, I.bs, Nat.le_trans I.ok.bsz I.sz, I.stack, I.stkFree, I.hok, I.bare⟩
/-- behind a call -/
theorem Inv.after {Q : VK} {u : Value} (I : Inv X pins σ H s) (h : CE X.stack X.prog X.w H s Q u s') : EP X pins σ Q u s' := by
  obtain ⟨v, H', os, bare, un, hok, r, q⟩ := h
  obtain ⟨hh, g, d, t, os'⟩ := s'
  obtain rfl : os' = s.os := os
  exact ⟨v, H', I.call (h' := hh) (g' := g) (d' := d) (t' := t) (ch := []) un hok bare (fun b z => absurd z (by simp)), r, q⟩
end

/-! ### calls -/
/-- f(..): the written arguments, then the defaults dvs; E: what is wanted of an exception -/
def tCall (sp : Sp) (dvs : List V) (E : XK) (t : TA) : TE := fun σ H Q => t σ H fun vs H1 => sp (vs ++ dvs) H1 Q E
/-- C(..): a new instance and its dict, then __init__ -/
def tMake (C : Addr) (sp : Sp) (dvs : List V) (E : XK) (t : TA) : TE := fun σ H Q => t σ H fun vs H1 => ∀ x dx, H1 x = none → H1 dx = none → dx ≠ x →
  sp (.ref x :: (vs ++ dvs)) (upd (upd H1 dx (.own x)) x (.ins C dx [])) (fun v H2 => v = .non ∧ Q (.ref x) H2) E

/-- how the parameters are bound: us the positional arguments, kw the keywords' values by name, ds the defaults that fill up -/
def Binds (K : PySem.W.Frag) (fd : FuncData) (ps : List Str) (ds : List Value) : Prop :=
  ∀ (s : Shared) (us : List Value), K.In s.heap → (us ++ ds).length = ps.length → BindsTo s fd ⟨us, []⟩ (ps.zip (us ++ ds))
/-- every parameter is given -/
theorem Binds.all {K : PySem.W.Frag} {fd : FuncData} {ps : List Str} (h : ∀ us : List Value, us.length = ps.length → bindArgs fd ⟨us, []⟩ = pure (ps.zip us)) : Binds K fd ps [] := fun s us _ hl => by
  rw [List.append_nil] at hl ⊢
  exact .of_eq (h us hl)

/-- an exception of a callee reaches what this body wants of exceptions -/
def Passes (CX : CXT) (X : Cx) (E : XK) : Prop := ∀ (pins : List (Addr × Obj)) (σ : St) (H : Hp) (s : Shared) (e : Value) (s' : Shared), Inv X pins σ H s → CX X.stack H s E e s' → X.xe e s'

section
variable {X : Cx} {CX : CXT} {k : Nat} {f C : Addr} {fd : FuncData} {ps : List Str} {sp : Sp} {dvs : List V} {ds : List Value} {E : XK} {x m : Str} {p pos apos : Pos} {e o : Expr} {es : List Expr} {ta : TE} {t : TA}

/-- the callee runs -/
theorem run_fn {pins : List (Addr × Obj)} {σ : St} {H : Hp} {s : Shared} {Q : VK} {us : List Value} {vs : List V} (F : FnOk X.prog X.w X.K X.mg X.base CX k f fd ps sp) (hr : Room k X.A) (hb : Binds X.K fd ps ds) (hd : Vals dvs ds) (hx : Passes CX X E)
    (I : Inv X pins σ H s) (r : Vals vs us) (h : sp (vs ++ dvs) H Q E) : wpAny (model X.prog X.w) X.A (call (.ref f) us) (EP X pins σ Q) X.xe s := by
  have r2 : Vals (vs ++ dvs) (us ++ ds) := r.append hd
  have hl : (us ++ ds).length = ps.length := by rw [← r2.length]; exact F.len _ _ _ _ h
  refine wpAny_call (codeAny_mono (F.run X.A X.stack s H ⟨us, []⟩ (us ++ ds) (vs ++ dvs) Q E hr I.env0 (hb s us I.kIn hl) r2 h) fun r s' hq => ?_)
  cases r with
  | error e => exact hx pins σ H s e s' I hq
  | ok fl =>
    cases fl with
    | ret u => exact I.after hq
    | next => exact False.elim hq
    | brk => exact False.elim hq
    | cont => exact False.elim hq

theorem pe_call (F : FnOk X.prog X.w X.K X.mg X.base CX k f fd ps sp) (hr : Room k X.A) (hg : Gl X x) (hm : X.mg x = some (.ref f)) (hk : PySem.W.keepIn X.K (.ref f) = true) (hb : Binds X.K fd ps ds) (hd : Vals dvs ds) (hx : Passes CX X E)
    (ha : PA X (e :: es) t) (hdb : (x == ("__debug__" : Str)) = false := by decide) (he : starEach (e :: es) X.env = (false, eval e X.env) :: starEach es X.env := by rfl) (hpl : (backTo pos (starEach es X.env)).any (·.1) = false := by rfl) :
    PE X (.Call (.Name x p) (e :: es) [] pos) (tCall sp dvs E t) := by
  intro pins s σ H Q I h
  refine wpAny_Call_Name_kw (ld_glob I hg hm ?_ hdb)
  refine PySem.W.callWith_K (h₀ := X.base) I.ok.mod.kin hk (thn (ha pos pins s σ H _ I h) fun us s1 ⟨vs, H1, I1, r, q⟩ => ⟨I1.kIn, ?_⟩) he hpl
  exact run_fn F hr hb hd hx I1 r q


/-- what a class must have to be made -/
structure Mk (K : PySem.W.Frag) (C f : Addr) : Prop where
  makes : PySem.W.makesIn K C = true
  init : PySem.W.findIn K (.ref C) "__init__" = some (some (.ref f))
  fn : PySem.W.isFn K (.ref f) = true
  kp : PySem.W.keepIn K (.ref C) = true

theorem run_make {pins : List (Addr × Obj)} {σ : St} {H : Hp} {s : Shared} {Q : VK} {us : List Value} {vs : List V} (M : Mk X.K C f) (F : FnOk X.prog X.w X.K X.mg X.base CX k f fd ps sp) (hr : Room (k + 1) X.A) (hb : Binds X.K fd ps ds) (hd : Vals dvs ds)
    (hx : Passes CX X E) (I : Inv X pins σ H s) (r : Vals vs us)
    (h : ∀ x dx, H x = none → H dx = none → dx ≠ x → sp (.ref x :: (vs ++ dvs)) (upd (upd H dx (.own x)) x (.ins C dx [])) (fun v H2 => v = .non ∧ Q (.ref x) H2) E) :
    wpAny (model X.prog X.w) X.A (call (.ref C) us) (EP X pins σ Q) X.xe s := by
  have hq := h (s.heap.objs.size + 1) s.heap.objs.size (I.hok.fresh (Nat.le_succ _)) (I.hok.fresh (Nat.le_refl _)) (Nat.ne_of_lt (Nat.lt_succ_self _))
  have I2 := Inv.made (C := C) I
  have r2 : Vals (V.ref (s.heap.objs.size + 1) :: (vs ++ dvs)) (Value.ref (s.heap.objs.size + 1) :: (us ++ ds)) := .cons rfl (r.append hd)
  have hl : (Value.ref (s.heap.objs.size + 1) :: us ++ ds).length = ps.length := by
    have e := r2.length
    rw [F.len _ _ _ _ hq] at e
    exact e.symm
  refine wpAny_call (make_map (f := f) I.kIn M.makes M.init (beq_iff_eq.mp M.fn) (codeAny_mono (F.run _ X.stack _ _ ⟨Value.ref (s.heap.objs.size + 1) :: us, []⟩ (Value.ref (s.heap.objs.size + 1) :: (us ++ ds)) _ _ E (hr.make C us [])
    (I2.env0.make C us []) (hb _ (Value.ref (s.heap.objs.size + 1) :: us) I2.kIn hl) r2 hq) fun r s' hq' => ?_))
  cases r with
  | error e => exact hx pins σ _ _ e s' I2 hq'
  | ok fl =>
    cases fl with
    | ret u =>
      obtain ⟨v, H', I3, rv, ev, q3⟩ := I2.after hq'
      subst ev
      exact ⟨rv, ⟨V.ref (s.heap.objs.size + 1), H', I3, rfl, q3⟩⟩
    | next => exact False.elim hq'
    | brk => exact False.elim hq'
    | cont => exact False.elim hq'
theorem pe_make (M : Mk X.K C f) (F : FnOk X.prog X.w X.K X.mg X.base CX k f fd ps sp) (hr : Room (k + 1) X.A) (hg : Gl X x) (hm : X.mg x = some (.ref C)) (hb : Binds X.K fd ps ds) (hd : Vals dvs ds) (hx : Passes CX X E)
    (ha : PA X (e :: es) t) (hdb : (x == ("__debug__" : Str)) = false := by decide) (he : starEach (e :: es) X.env = (false, eval e X.env) :: starEach es X.env := by rfl) (hpl : (backTo pos (starEach es X.env)).any (·.1) = false := by rfl) :
    PE X (.Call (.Name x p) (e :: es) [] pos) (tMake C sp dvs E t) := by
  intro pins s σ H Q I h
  refine wpAny_Call_Name_kw (ld_glob I hg hm ?_ hdb)
  refine PySem.W.callWith_K (h₀ := X.base) I.ok.mod.kin M.kp (thn (ha pos pins s σ H _ I h) fun us s1 ⟨vs, H1, I1, r, q⟩ => ⟨I1.kIn, ?_⟩) he hpl
  exact run_make M F hr hb hd hx I1 r q
end

/-! ### keywords -/
section
variable {X : Cx} {CX : CXT} {k : Nat} {f C : Addr} {fd : FuncData} {ps ks : List Str} {sp : Sp} {E : XK} {x m : Str} {p pos apos kpos : Pos} {e o : Expr} {es : List Expr} {kws : List Keyword} {te ta : TE} {t tk : TA} {nm : Option Str}

/-- how a call with keywords binds: g puts the positional values us and the keywords' values ws (names ks) in the parameters' order, defaults among them -/
structure KBinds (K : PySem.W.Frag) (fd : FuncData) (ps ks : List Str) (g : List Value → List Value → List Value) (gV : List V → List V → List V) : Prop where
  to : ∀ (s : Shared) (us ws : List Value), K.In s.heap → (g us ws).length = ps.length → BindsTo s fd ⟨us, ks.zip ws⟩ (ps.zip (g us ws))
  rel : ∀ {vs : List V} {us : List Value} {zs : List V} {ws : List Value}, Vals vs us → Vals zs ws → Vals (gV vs zs) (g us ws)
variable {g : List Value → List Value → List Value} {gV : List V → List V → List V}
end

/-! ### a def's body keeps its promise -/
/-- names: the parameters first -/
structure FnScope (N P : List Str) (sc : Scope) : Prop where
  kind : sc.kind = .function
  co : sc.isCoroutine = false
  gen : sc.isGenerator = false
  nd : N.Nodup
  pre : N.take P.length = P
  par : ∀ x ∈ P, sc.names.lookup x = some .local ∨ sc.names.lookup x = some .cell
  nofree : ∀ y ∈ sc.names, y.2 ≠ .free

theorem bindL_out {kindOf : Str → Option NameKind} {x : Str} : ∀ {binds : List (Str × Value)} {m : Str → Option Value}, (∀ v, (x, v) ∉ binds) → bindL kindOf binds m x = m x
  | [], _, _ => rfl
  | (n, v) :: r, m, h => by
    unfold bindL
    rw [bindL_out fun w hw => h w (List.mem_cons_of_mem _ hw)]
    split
    · have : x ≠ n := by rintro rfl; exact h v List.mem_cons_self
      simp [this]
    · rfl
theorem bindC_out {kindOf : Str → Option NameKind} {x : Str} : ∀ {binds : List (Str × Value)} {m : Str → Option Value}, (∀ v, (x, v) ∉ binds) → bindC kindOf binds m x = m x
  | [], _, _ => rfl
  | (n, v) :: r, m, h => by
    unfold bindC
    rw [bindC_out fun w hw => h w (List.mem_cons_of_mem _ hw)]
    split
    · rfl
    · have : x ≠ n := by rintro rfl; exact h v List.mem_cons_self
      simp [this]
theorem bindL_get {kindOf : Str → Option NameKind} {x : Str} {v : Value} : ∀ {P : List Str} {vs : List Value} {i : Nat} {m : Str → Option Value}, P.Nodup → P[i]? = some x → vs[i]? = some v → kindOf x = some .local →
    bindL kindOf (P.zip vs) m x = some v
  | [], _, _, _, _, h, _, _ => by simp at h
  | _ :: _, [], _, _, _, _, h, _ => by simp at h
  | p :: P, w :: vs, 0, m, nd, h1, h2, hk => by
    simp at h1 h2; subst h1; subst h2
    show bindL kindOf ((p, w) :: P.zip vs) m p = _
    unfold bindL
    rw [bindL_out fun v hv => (List.nodup_cons.mp nd).1 (List.of_mem_zip hv).1, if_pos hk]
    simp
  | p :: P, w :: vs, i + 1, m, nd, h1, h2, hk => by
    show bindL kindOf ((p, w) :: P.zip vs) m x = _
    unfold bindL
    exact bindL_get (i := i) (List.nodup_cons.mp nd).2 (by simpa using h1) (by simpa using h2) hk
theorem bindC_get {kindOf : Str → Option NameKind} {x : Str} {v : Value} : ∀ {P : List Str} {vs : List Value} {i : Nat} {m : Str → Option Value}, P.Nodup → P[i]? = some x → vs[i]? = some v → kindOf x ≠ some .local →
    bindC kindOf (P.zip vs) m x = some v
  | [], _, _, _, _, h, _, _ => by simp at h
  | _ :: _, [], _, _, _, _, h, _ => by simp at h
  | p :: P, w :: vs, 0, m, nd, h1, h2, hk => by
    simp at h1 h2; subst h1; subst h2
    show bindC kindOf ((p, w) :: P.zip vs) m p = _
    unfold bindC
    rw [bindC_out fun v hv => (List.nodup_cons.mp nd).1 (List.of_mem_zip hv).1, if_neg hk]
    simp
  | p :: P, w :: vs, i + 1, m, nd, h1, h2, hk => by
    show bindC kindOf ((p, w) :: P.zip vs) m x = _
    unfold bindC
    exact bindC_get (i := i) (List.nodup_cons.mp nd).2 (by simpa using h1) (by simpa using h2) hk

/-- the names' values at the entry -/
def start (N : List Str) (vs : List V) : St := vs.map some ++ List.replicate (N.length - vs.length) none

/-- the context of a def's body, at its entry; an exception leaves the frame, then lies as CX says -/
def cxOf (CX : CXT) (P : Program) (w : World) (K : PySem.W.Frag) (mg : Str → Option Value) (base : Heap) (N : List Str) (qual : Str) (scope : Scope) (f : Addr) (cd : Value) (A : Around) (outer : List Env) (s : Shared) (H : Hp) (E : XK) : Cx where
  prog := P
  w := w
  K := K
  mg := mg
  base := base
  A := A.deeper (envOfC qual scope s.heap.objs.size f cd)
  N := N
  s₀ := s
  H₀ := H
  env := envOfC qual scope s.heap.objs.size f cd
  outer := outer
  stack := envOfC qual scope s.heap.objs.size f cd :: outer
  ex := []
  calm := true
  fn := fun _ => true
  pn := []
  xe := fun e s' => wpAny (model P w) (A.deeper (envOfC qual scope s.heap.objs.size f cd)) (leaving (envOfC qual scope s.heap.objs.size f cd) e) (fun _ s'' => CX outer H s E e s'') (fun e' s'' => CX outer H s E e' s'') s'

theorem cell_has {sc : Scope} {n : Nat} {x : Str} (h : sc.names.lookup x = some .cell) : ∃ c, (cellsFrom n sc.names []).lookup x = some c := by
  have q := PySem.W.cellsFrom_some sc.names n [] (.inl h)
  exact Option.isSome_iff_exists.mp q

theorem inv_start {CX : CXT} {P : Program} {w : World} {K : PySem.W.Frag} {mg : Str → Option Value} {base : Heap} {N ps : List Str} {qual : Str} {scope : Scope} {f : Addr} {cd : Value} {A : Around} {outer : List Env} {s s1 : Shared} {H : Hp} {E : XK} {us : List Value} {vs : List V}
    (S : FnScope N ps scope) (hd : A.handled = none) (e0 : Env0 P w K mg base A outer s H) (hl : vs.length = ps.length) (r : Vals vs us)
    (x : InCallC s s.heap.objs.size (bindL (envOfC qual scope s.heap.objs.size f cd).kindOf (ps.zip us) fun _ => none) (cellsFrom (s.heap.objs.size + 1) scope.names []) (bindC (envOfC qual scope s.heap.objs.size f cd).kindOf (ps.zip us) fun _ => none) s1) :
    Inv (cxOf CX P w K mg base N qual scope f cd A outer s H E) [] (start N vs) H s1 := by
  have hpl : ps.length ≤ N.length := by have := congrArg List.length S.pre; rw [List.length_take] at this; omega
  obtain ⟨h1, tk, rfl, hk⟩ := x.done
  have noA : ∀ b : Addr, b ∉ (cxOf CX P w K mg base N qual scope f cd A outer s H E).ex := fun b z => absurd (show b ∈ ([] : List Addr) from z) (by simp)
  refine ⟨⟨e0.mod, S.kind, rfl, rfl, Nat.le_refl _, fun y z c h1 h2 => ?_, fun y hy => ?_, fun y c _ h => ?_, fun _ => hd, Around.frames_deeper e0.frames, .inr ⟨rfl, rfl⟩, fun b z => absurd z (noA b), e0.bs, e0.bsz, fun b _ _ => noA b, fun b z => absurd z (noA b), e0.funs, e0.frf⟩,
    rfl, e0.bare, Un.kept hk, ⟨_, x.toInCall.ns, fun i y v h1 h2 h3 => ?_⟩, fun y c h => ⟨_, x.cell y c h⟩, e0.hok.fresh (Nat.le_refl _), fun y c h => ?_, fun p hp => absurd (show p ∈ ([] : List (Addr × Obj)) from hp) (by simp), e0.hok.kept hk, ?_⟩
  · exact name_of_addr x.apart (PySem.mem_of_lookup h1) (PySem.mem_of_lookup h2)
  · have hy : scope.names.lookup y = some .cell ∨ scope.names.lookup y = some .free := hy
    rcases hy with hy | hy
    · exact cell_has hy
    · exact absurd rfl (S.nofree _ (PySem.mem_of_lookup hy))
  · exact Nat.le_of_lt (x.above y c (PySem.mem_of_lookup h))
  · have hi : i < vs.length := by
      unfold start at h2
      by_cases hi : i < vs.length
      · exact hi
      · rw [List.getElem?_append_right (by simpa using hi)] at h2
        rw [List.getElem?_replicate] at h2
        split at h2 <;> cases h2
    have ha : vs[i]? = some v := by
      unfold start at h2
      rw [List.getElem?_append_left (by simpa using hi), List.getElem?_map] at h2
      cases e : vs[i]? with
      | none => rw [e] at h2; cases h2
      | some a => rw [e] at h2; cases h2; rfl
    obtain ⟨u, hu, rv⟩ := r.get ha
    have hp : ps[i]? = some y := by
      rw [← S.pre, List.getElem?_take_of_lt (by omega)]; exact h1
    have ndP : ps.Nodup := by rw [← S.pre]; exact S.nd.sublist (List.take_sublist _ _)
    refine ⟨u, rv, ?_⟩
    rcases S.par y (List.mem_of_getElem? hp) with k | k
    · exact .inl ⟨k, bindL_get ndP hp hu k⟩
    · obtain ⟨c, e⟩ := cell_has (n := s.heap.objs.size + 1) k
      refine .inr ⟨.inl k, c, e, ?_⟩
      have q := x.cell y c e
      rw [bindC_get ndP hp hu (by show scope.names.lookup y ≠ _; rw [k]; decide)] at q
      exact q
  · exact e0.hok.fresh (Nat.le_of_lt (x.above y c (PySem.mem_of_lookup h)))
  · unfold start
    show _ = N.length
    rw [List.length_append, List.length_map, List.length_replicate]
    omega

/-- THE RULE: a def (or a method) of the text, by its body. The body's reading t is chosen for each entry; it is run at the parameters' values -/
theorem fn_of {CX : CXT} {P : Program} {w : World} {K : PySem.W.Frag} {mg : Str → Option Value} {base : Heap} {k : Nat} {f : Addr} {name qual : Str} {params : Arguments} {body : List Stmt} {scope : Scope} {dV kV doc pm cdv ct oc : Value} {an od : Option Addr}
    {osl : Array (Option Value)} {N ps : List Str} {sp : Sp} (lk : K.lookup f = some ⟨oc, od, .func (PySem.W.fnOf name qual params body scope dV kV doc pm an cdv ct), osl⟩) (hcd : PySem.W.codeIn K cdv qual = true) (S : FnScope N ps scope)
    (len : ∀ vs H Q E, sp vs H Q E → vs.length = ps.length)
    (hbody : ∀ (A : Around) (outer : List Env) (s : Shared) (H : Hp) (vs : List V) (Q : VK) (E : XK), Room k (A.deeper (envOfC qual scope s.heap.objs.size f cdv)) → sp vs H Q E →
      ∃ t, PSs (cxOf CX P w K mg base N qual scope f cdv A outer s H E) body t ∧ t { nx := fun _ H' => Q .non H', rt := Q } (start N vs) H) :
    FnOk P w K mg base CX (k + 1) f (PySem.W.fnOf name qual params body scope dV kV doc pm an cdv ct) ps sp := by
  refine ⟨len, fun A outer s H args us vs Q E hr e0 hb r hsp => ?_⟩
  have hl := len _ _ _ _ hsp
  have KX : K.In s.heap := e0.mod.kin.keeps fun b o e => (e0.bs b o e).1
  have lim : s.heap.NoLimit := e0.mod.nolimit.keeps fun b o e => (e0.bs b o e).1
  have hkind : ∀ y ∈ ps.zip us, scope.names.lookup y.1 = some .local ∨ (scope.names.lookup y.1 = some .cell ∧ ((cellsFrom (s.heap.objs.size + 1) scope.names []).lookup y.1).isSome = true) := fun ⟨n, v⟩ hy => by
    rcases S.par n (List.of_mem_zip hy).1 with q | q
    · exact .inl q
    · exact .inr ⟨q, PySem.W.cellsFrom_some _ _ _ (.inl q)⟩
  refine codeAny_call_function hr.depth (KX _ _ lk) rfl S.co S.gen rfl (PySem.W.codeRec_of KX hcd) (hb _ _ _ _ ?_)
  refine wpAny_newFunctionEnv_cells S.kind hkind fun env he s1 x => ?_
  subst he
  refine ⟨lim.keeps x.toInCall.keep, codeAny_func ?_⟩
  obtain ⟨t, ht, hq⟩ := hbody A outer s H vs Q E (hr.deeper _) hsp
  have I : Inv (cxOf CX P w K mg base N qual scope f cdv A outer s H E) [] (start N vs) H s1 := inv_start S hr.hd e0 hl r x
  refine wpAny_mono (ht [] s1 (start N vs) H _ I hq) (fun fl s' hs => ?_) fun e s' hs => hs
  have fin : ∀ {σ' : St} {H' : Hp} {v : V} {u : Value}, Inv (cxOf CX P w K mg base N qual scope f cdv A outer s H E) [] σ' H' s' → RelV v u → Q v H' → CE outer P w H s Q u s' :=
    fun {σ' H' v u} J rv q => ⟨v, H', J.os, J.bare, J.base, J.hok, rv, q⟩
  cases fl with
  | ret u =>
    obtain ⟨v, σ', H', J, rv, q⟩ := hs
    exact fin J rv q
  | next =>
    obtain ⟨σ', H', J, q⟩ := hs
    exact fin (v := V.non) (u := Value.none) J rfl q
  | brk =>
    obtain ⟨_, _, _, q⟩ := hs
    exact False.elim q
  | cont =>
    obtain ⟨_, _, _, q⟩ := hs
    exact False.elim q
end L2

namespace L2
open PySem PySem.Spec PyProof.Rows
section
variable {X : Cx} {x : Str} {p pos : Pos} {e : Expr} {es : List Expr} {t : TA} {id T : String} {r : List V → Hp → VK → Prop}

def tCB (r : List V → Hp → VK → Prop) (t : TA) : TE := fun σ H Q => t σ H fun vs H1 => r vs H1 Q
/-- f(e, ..), f a built-in function -/
theorem pe_callB (hc : CallR X (.builtin id) r) (hg : Gl X x) (hm : X.mg x = none) (hv : bootBuiltins x = some (.builtin id)) (ha : PA X (e :: es) t) (hn : x ≠ "__name__" := by decide) (hdb : (x == ("__debug__" : Str)) = false := by decide)
    (he : starEach (e :: es) X.env = (false, eval e X.env) :: starEach es X.env := by rfl) (hpl : (backTo pos (starEach es X.env)).any (·.1) = false := by rfl) : PE X (.Call (.Name x p) (e :: es) [] pos) (tCB r t) := by
  intro pins s σ H Q I h
  refine wpAny_Call_Name_kw (ld_blt I hg hm hv ?_ hn hdb)
  exact PyProof.Rows.callWith_builtin1 (thn (ha pos pins s σ H _ I h) fun us s1 ⟨vs, H1, I1, r1, q1⟩ => hc pins s1 σ H1 vs us Q I1 r1 q1) he hpl
/-- T(e, ..), T a built-in type -/
theorem pe_callTy (hc : CallR X (.type T) r) (hg : Gl X x) (hm : X.mg x = none) (hv : bootBuiltins x = some (.type T)) (ha : PA X (e :: es) t) (hn : x ≠ "__name__" := by decide) (hdb : (x == ("__debug__" : Str)) = false := by decide)
    (he : starEach (e :: es) X.env = (false, eval e X.env) :: starEach es X.env := by rfl) (hpl : (backTo pos (starEach es X.env)).any (·.1) = false := by rfl) : PE X (.Call (.Name x p) (e :: es) [] pos) (tCB r t) := by
  intro pins s σ H Q I h
  refine wpAny_Call_Name_kw (ld_blt I hg hm hv ?_ hn hdb)
  exact PyProof.Rows.callWith_type1 (thn (ha pos pins s σ H _ I h) fun us s1 ⟨vs, H1, I1, r1, q1⟩ => hc pins s1 σ H1 vs us Q I1 r1 q1) he hpl
end
end L2

namespace HT
open PySem PyProof.Rows



section
open PySem.SeqAt
open PySem.AutoSeq1 (wpAny_loadPart')
open PySem.MeetsSeq PySem.MeetsSeq2 PySem.MeetsSeq3

end

section
variable {prog : Program} {w : World} {A : Around} {E : Value → Shared → Prop} {s : Shared}


/-- t + u, t not empty -/
theorem cat_tup {t b : Addr} {vs ws : List Value} {Q : Value → Shared → Prop} (ht : IsTup s.heap t vs.toArray) (hb : IsTup s.heap b ws.toArray) (hv : vs ≠ [])
    (h1 : ws = [] → Q (.ref t) s) (h2 : ws ≠ [] → Q (.ref s.heap.objs.size) { s with heap := s.heap.push { cls := .type "tuple", data := .seq (vs ++ ws).toArray } })
    (hsz : vs.length + ws.length ≤ sizeLine) : wpAny (model prog w) A (binaryOp .Add (.ref t) (.ref b)) Q E s := by
  obtain ⟨⟨cls, dd, data, sl⟩, ho, hc, n, hd⟩ := id ht
  obtain ⟨⟨cls2, dd2, data2, sl2⟩, ho2, hc2, n2, hd2⟩ := id hb
  simp only at hc hd hc2 hd2
  subst hc hd hc2 hd2
  have e : vs.toArray ++ ws.toArray = (vs ++ ws).toArray := by simp
  by_cases hw : ws = []
  · exact concat_meets ⟨_, ho, rfl⟩ ⟨_, ho2, rfl⟩ noFill_tuple_add seq_tuple_add PySem.F.slot_tuple_add PySem.F.entry_tuple_add (PySem.F.args_tuple_add_2 _ _)
      (tuple_addW1 t b vs.toArray ws.toArray n n2 dd dd2 sl sl2 (by simpa using hv) (by simp [hw])) ⟨ho, ho2, h1 hw⟩
  · refine concat_meets ⟨_, ho, rfl⟩ ⟨_, ho2, rfl⟩ noFill_tuple_add seq_tuple_add PySem.F.slot_tuple_add PySem.F.entry_tuple_add (PySem.F.args_tuple_add_2 _ _)
      (tuple_addW2 t b vs.toArray ws.toArray n n2 dd dd2 sl sl2 (by simpa using hv) (by simpa using hw) (by rw [List.size_toArray, List.size_toArray]; exact hsz)) ⟨ho, ho2, ?_⟩
    rw [e]
    exact h2 hw

/-! ### t[a:b], not the whole -/
/-- a slice's bound as a place among n (d where it is left out) -/
def sIx (n d : Nat) : Option Int → Nat
  | none => d
  | some v => if v < 0 then (v + (n : Int)).toNat else min v.toNat n
theorem sIx_none (n d : Nat) : sIx n d none = d := rfl
theorem sIx_nat (n d k : Nat) : sIx n d (some (k : Int)) = min k n := by
  show (if (k : Int) < 0 then ((k : Int) + (n : Int)).toNat else min (k : Int).toNat n) = min k n
  rw [if_neg (by omega), Int.toNat_natCast]
theorem sIx_le (n d : Nat) (hd : d ≤ n) (o : Option Int) : sIx n d o ≤ n := by
  cases o with
  | none => exact hd
  | some v =>
    show (if v < 0 then (v + (n : Int)).toNat else min v.toNat n) ≤ n
    by_cases hv : v < 0
    · rw [if_pos hv]; omega
    · rw [if_neg hv]; exact Nat.min_le_right _ _
theorem clip_eq (v : Int) (n d : Nat) : (if v < 0 then max (v + (n : Int)) 0 else min v (n : Int)) = ((sIx n d (some v) : Nat) : Int) := by
  show (if v < 0 then max (v + (n : Int)) 0 else min v (n : Int)) = (((if v < 0 then (v + (n : Int)).toNat else min v.toNat n) : Nat) : Int)
  by_cases hv : v < 0
  · simp only [if_pos hv]; omega
  · simp only [if_neg hv]; omega
theorem adjust_gen (lo hi : Option Int) (n : Nat) : Builtin.Slice.sliceAdjust lo hi 1 (n : Int) = (((sIx n 0 lo : Nat) : Int), ((sIx n n hi : Nat) : Int)) := by
  have h1 : ¬ ((1 : Int) < 0) := by omega
  unfold Builtin.Slice.sliceAdjust
  simp only [h1, if_false]
  refine Prod.ext ?_ ?_
  · cases lo with
    | none => rfl
    | some v => exact clip_eq v n 0
  · cases hi with
    | none => rfl
    | some v => exact clip_eq v n n
theorem places_gen (i j : Nat) : Builtin.Slice.slicePlaces (i : Int) (j : Int) 1 = j - i := by
  unfold Builtin.Slice.slicePlaces
  have h1 : (1 : Int) > 0 := by omega
  simp only [h1, if_true, Int.ediv_one]
  split <;> omega
theorem slicePart_ {v : Value} {o : Option Int} {Q : Option Int → Shared → Prop} (p : IsPart v o) (h : Q o s) : wpAny (model prog w) A (Builtin.Slice.slicePartIndex v) Q E s := by
  cases p with
  | none => exact slicePart_none h
  | int i t => exact slicePart_int h
theorem sliceApplied_gen {sl : Addr} {vl vu : Value} {lo hi : Option Int} {n : Nat} {Q : Int × Int × Nat → Shared → Prop} (hs : s.heap.IsSliceOf sl vl vu .none) (pl : IsPart vl lo) (pu : IsPart vu hi)
    (h : Q (((sIx n 0 lo : Nat) : Int), 1, sIx n n hi - sIx n 0 lo) s) : wpAny (model prog w) A (Builtin.Slice.sliceApplied (.ref sl) (pure (n : Int))) Q E s := by
  obtain ⟨os, hos, hcs, hds⟩ := id hs
  unfold Builtin.Slice.sliceApplied Builtin.Slice.sliceFields
  refine wpAny_bind (wpAny_bind (wpAny_field hos hds (x := vl) rfl (wpAny_bind (wpAny_field hos hds (x := vu) rfl (wpAny_bind (wpAny_field hos hds (x := .none) rfl (wpAny_pure ?_)))))))
  refine wpAny_bind (slicePart_none ?_)
  show wpAny _ _ (if ((1 : Int) == 0) = true then _ else _) _ _ s
  rw [if_neg (by decide)]
  refine wpAny_bind (slicePart_ pl (wpAny_bind (slicePart_ pu (wpAny_bind (wpAny_pure ?_)))))
  show wpAny _ _ (match Builtin.Slice.sliceAdjust lo hi 1 (n : Int) with | (lo, hi) => pure (lo, (1 : Int), Builtin.Slice.slicePlaces lo hi 1)) _ _ s
  rw [adjust_gen lo hi n]
  show wpAny _ _ (pure (((sIx n 0 lo : Nat) : Int), (1 : Int), Builtin.Slice.slicePlaces ((sIx n 0 lo : Nat) : Int) ((sIx n n hi : Nat) : Int) 1)) _ _ s
  rw [places_gen]
  exact wpAny_pure h
theorem pick_gen (xs : Array Value) (i k : Nat) : ((List.range k).filterMap fun (m : Nat) => xs[((i : Int) + (m : Int) * 1).toNat]?).toArray = ((xs.toList.drop i).take k).toArray := by
  have e : (fun (m : Nat) => xs[((i : Int) + (m : Int) * 1).toNat]?) = fun m => xs[i + m]? := by
    funext m
    have : ((i : Int) + (m : Int) * 1).toNat = i + m := by omega
    rw [this]
  rw [e]
  have := pick_run xs i k
  rw [List.filterMap_map] at this
  have e2 : ((fun x => xs[x]?) ∘ fun x => i + x) = fun m => xs[i + m]? := rfl
  rw [e2] at this
  rw [this]

theorem getItem_tuple_cut {t sl : Addr} {items : Array Value} {vl vu : Value} {lo hi : Option Int} {Q : Value → Shared → Prop} (ht : IsTup s.heap t items) (hs : s.heap.IsSliceOf sl vl vu .none) (pl : IsPart vl lo) (pu : IsPart vu hi)
    (hw : ¬ (sIx items.size 0 lo = 0 ∧ sIx items.size items.size hi = items.size))
    (h : Q (.ref s.heap.objs.size) { s with heap := s.heap.push { cls := .type "tuple", data := .seq ((items.toList.drop (sIx items.size 0 lo)).take (sIx items.size items.size hi - sIx items.size 0 lo)).toArray } })
    (hsz : items.size ≤ sizeLine) : wpAny (model prog w) A (getItem (.ref t) (.ref sl)) Q E s := by
  have htake : sizeOk (.seq ((items.toList.drop (sIx items.size 0 lo)).take (sIx items.size items.size hi - sIx items.size 0 lo)).toArray) := by
    show ((items.toList.drop (sIx items.size 0 lo)).take (sIx items.size items.size hi - sIx items.size 0 lo)).toArray.size ≤ sizeLine
    rw [List.size_toArray, List.length_take, List.length_drop, Array.length_toList]
    omega
  have hj : sIx items.size items.size hi ≤ items.size := sIx_le _ _ (Nat.le_refl _) hi
  obtain ⟨os, hos, hcs, hds⟩ := id hs
  have hTs : s.TypeIs (.ref sl) "slice" := ⟨os, hos, hcs⟩
  unfold getItem
  try with_reducible refine wpAny_holding ?_
  first | refine wpAny_bind (wpAny_pure ?_) | skip
  refine wpAny_bind (wpAny_sequenceKey ht.typeIs (by decide) ?_)
  refine wpAny_bind (wpAny_callSpecial?_slot (name := Str.ofString "__getitem__") ht.typeIs PyProof.Rows.slot_tuple_getitem
    (wpAny_call_entry PyProof.Rows.slot_tuple_getitem ht.typeIs entry_tuple_getitem ?_ (args_tuple_getitem _ _)))
  show wpAny _ _ (Builtin.Tuple.tupleItemsOf (.ref t) >>= _) _ _ s
  refine wpAny_bind (tupleItemsOf_ ht ?_)
  refine wpAny_bind (wpAny_typeOf hTs ?_)
  rw [if_pos (by decide)]
  refine wpAny_bind (sliceApplied_gen hs pl pu ?_)
  have hno : ¬ ((((sIx items.size 0 lo : Nat) : Int) == 0 && (1 : Int) == 1 && (sIx items.size items.size hi - sIx items.size 0 lo) == items.size) = true) := by
    intro q
    rw [Bool.and_eq_true, Bool.and_eq_true] at q
    have q1 : ((sIx items.size 0 lo : Nat) : Int) = 0 := eq_of_beq q.1.1
    have q2 : sIx items.size items.size hi - sIx items.size 0 lo = items.size := eq_of_beq q.2
    exact hw ⟨by omega, by omega⟩
  show wpAny _ _ (if (((sIx items.size 0 lo : Nat) : Int) == 0 && (1 : Int) == 1 && (sIx items.size items.size hi - sIx items.size 0 lo) == items.size) = true then _ else _) _ _ s
  rw [if_neg hno, pick_gen]
  first
    | exact wpAny_bind (m := Builtin.Tuple.tupleExact _) (wpAny_newObj_type (wpAny_pure ⟨_, rfl, wpAny_pure h⟩) htake)
    | exact wpAny_bind (m := Builtin.Tuple.tupleExact _) (wpAny_newObj_type (wpAny_bind (wpAny_pure (wpAny_pure ⟨_, rfl, wpAny_pure h⟩))) htake)
    | exact wpAny_bind (wpAny_bind (m := Builtin.Tuple.tupleExact _) (wpAny_newObj_type (wpAny_pure (wpAny_pure ⟨_, rfl, wpAny_pure h⟩)) htake))
    | exact wpAny_bind (wpAny_bind (m := Builtin.Tuple.tupleExact _) (wpAny_newObj_type (wpAny_pure ⟨_, rfl, wpAny_pure h⟩) htake))
end
end HT

namespace L2
open PySem PySem.Spec PyProof.Rows

/-! ### the parts of a slice -/
abbrev TO := St → Hp → (Option Int → Hp → Prop) → Prop
/-- a slice's part (left out, or an int) -/
def PO (X : Cx) (e : Option Expr) (t : TO) : Prop :=
  ∀ (pins : List (Addr × Obj)) (s : Shared) (σ : St) (H : Hp) (Q : Option Int → Hp → Prop), Inv X pins σ H s → t σ H Q →
    wpAny (model X.prog X.w) X.A (evalPart e X.env) (fun u s' => ∃ o H', Inv X pins σ H' s' ∧ IsPart u o ∧ Q o H') X.xe s
def tNoPart : TO := fun _ H Q => Q none H
def tPart (t : TE) : TO := fun σ H Q => t σ H fun x H1 => ∃ i, x = .int i ∧ Q (some i) H1


section
variable {X : Cx} {e : Expr} {te : TE} {lo hi : Option Expr} {tl th : TO} {pos p2 : Pos}

theorem po_none : PO X none tNoPart := by
  intro pins s σ H Q I h
  rw [evalPart_none]
  exact wpAny_pure ⟨none, H, I, .none, h⟩
theorem po_some (h : PE X e te) : PO X (some e) (tPart te) := by
  intro pins s σ H Q I hw
  rw [evalPart_some]
  refine thn (h pins s σ H _ I hw) fun u s1 ⟨x, H1, I1, r1, q1⟩ => ?_
  obtain ⟨i, rfl, q⟩ := q1
  obtain ⟨t, rfl⟩ := r1
  exact ⟨some i, H1, I1, .int i t, q⟩

/-- what a slice of a value is, by values: the slice object stands at sl -/
def SlR (X : Cx) (r : V → Option Int → Option Int → Hp → VK → Prop) : Prop :=
  ∀ (pins : List (Addr × Obj)) (s : Shared) (σ : St) (H : Hp) (x : V) (v vl vu : Value) (lo hi : Option Int) (sl : Addr) (Q : VK), Inv X pins σ H s → RelV x v → s.heap.IsSliceOf sl vl vu .none → IsPart vl lo → IsPart vu hi → r x lo hi H Q →
    ∃ T id, typeLookup (.type T) "__getitem__" = pure (some (.builtin id)) ∧ s.TypeIs v T ∧ wpAny (model X.prog X.w) X.A (getItem v (.ref sl)) (EP X pins σ Q) X.xe s
theorem SlR.or {r r' : V → Option Int → Option Int → Hp → VK → Prop} (h : SlR X r) (h' : SlR X r') : SlR X (fun x lo hi H Q => r x lo hi H Q ∨ r' x lo hi H Q) := by
  intro pins s σ H x v vl vu lo hi sl Q I rx hs pl pu q
  rcases q with q | q
  · exact h pins s σ H x v vl vu lo hi sl Q I rx hs pl pu q
  · exact h' pins s σ H x v vl vu lo hi sl Q I rx hs pl pu q
def tSl (r : V → Option Int → Option Int → Hp → VK → Prop) (te : TE) (tl th : TO) : TE := fun σ H Q => te σ H fun x H1 => tl σ H1 fun l H2 => th σ H2 fun u H3 => r x l u H3 Q
/-- a[lo:hi], any a -/
theorem pe_slice {r : V → Option Int → Option Int → Hp → VK → Prop} (hr : SlR X r) (he : PE X e te) (hl : PO X lo tl) (hu : PO X hi th) : PE X (.Subscript e (.Slice lo hi none p2) pos) (tSl r te tl th) := by
  intro pins s σ H Q I h
  refine Subscript_ (thn (he pins s σ H _ I h) fun v s1 ⟨x, H1, I1, r1, q1⟩ => ?_)
  refine wpAny_Slice (thn (hl pins s1 σ H1 _ I1 q1) fun vl s2 ⟨l, H2, I2, pl, q2⟩ => thn (hu pins s2 σ H2 _ I2 q2) fun vu s3 ⟨u, H3, I3, pu, q3⟩ => ?_)
  rw [evalPart_none]
  refine wpAny_pure ?_
  have I4 : Inv X pins σ H3 { s3 with heap := s3.heap.push { cls := .type "slice", data := .fields #[vl, vu, .none] } } := I3.kept (t' := s3.toks) fun b ob q => Heap.get?_push_of_some _ q
  obtain ⟨T, id, hT, ht, hg⟩ := hr pins { s3 with heap := s3.heap.push { cls := .type "slice", data := .fields #[vl, vu, .none] } } σ H3 x v vl vu l u s3.heap.objs.size Q I4 r1 (Heap.IsSliceOf.new ..) pl pu q3
  show wpAny (model X.prog X.w) X.A (subscriptTail e (.Slice lo hi none p2) v (.ref s3.heap.objs.size)) (EP X pins σ Q) X.xe { s3 with heap := s3.heap.push { cls := .type "slice", data := .fields #[vl, vu, .none] } }
  exact tail_any (ops := [.ref s3.heap.objs.size, v]) ht hT hg (by with_unfolding_all rfl)

/-- the items of xs[lo:hi] -/
def cutV (xs : List V) (lo hi : Option Int) : List V := (xs.drop (HT.sIx xs.length 0 lo)).take (HT.sIx xs.length xs.length hi - HT.sIx xs.length 0 lo)
theorem cutV_length (xs : List V) (lo hi : Option Int) : (cutV xs lo hi).length ≤ xs.length := by
  unfold cutV
  rw [List.length_take, List.length_drop]
  omega
/-- t[lo:hi], not the whole of it (the whole would be t itself) -/
def rSlT (K : PySem.W.Frag) : V → Option Int → Option Int → Hp → VK → Prop := fun x lo hi H Q => ∃ a xs, x = .ref a ∧ SqT K H a xs ∧
  ¬ (HT.sIx xs.length 0 lo = 0 ∧ HT.sIx xs.length xs.length hi = xs.length) ∧ ∀ p, H p = none → Q (.ref p) (upd H p (.tup (cutV xs lo hi)))
theorem sl_tup : SlR X (rSlT X.K) := by
  intro pins s σ H x v vl vu lo hi sl Q I rx hs pl pu h
  obtain ⟨a, xs, rfl, hx, hw, q⟩ := h
  cases rx
  obtain ⟨its, r, ht, hz⟩ := I.tuple hx
  have hlen : its.toArray.size = xs.length := by rw [List.size_toArray]; exact r.length.symm
  refine ⟨"tuple", _, PyProof.Rows.slot_tuple_getitem.lookup, ht.typeIs, ?_⟩
  refine HT.getItem_tuple_cut ht hs pl pu (by rw [hlen]; exact hw) ?_ (by rw [hlen]; exact hz)
  rw [hlen]
  refine ⟨.ref s.heap.objs.size, _, I.laid (t' := s.toks) (o := .tup (cutV xs lo hi)) (fun b ob q => Heap.get?_push_of_some _ q) (Nat.le_refl _) ?_, rfl, q _ (I.hok.fresh (Nat.le_refl _))⟩
  exact ⟨Nat.le_trans (cutV_length xs lo hi) hz, _, (r.drop (HT.sIx xs.length 0 lo)).take (HT.sIx xs.length xs.length hi - HT.sIx xs.length 0 lo), IsTup.new _ _⟩

/-! ### t < u, t + u -/
/-- t + u, t not empty: u empty gives t itself -/
def rCatT (K : PySem.W.Frag) : R2 := fun x y H Q => ∃ a b xs ys, x = .ref a ∧ y = .ref b ∧ SqT K H a xs ∧ SqT K H b ys ∧ xs ≠ [] ∧ xs.length + ys.length ≤ sizeLine ∧
  (ys = [] → Q (.ref a) H) ∧ (ys ≠ [] → ∀ p, H p = none → Q (.ref p) (upd H p (.tup (xs ++ ys))))
theorem Vals.nil_iff {xs : List V} {us : List Value} (r : Vals xs us) : us = [] ↔ xs = [] := by
  cases r with
  | nil => simp
  | cons _ _ => simp
theorem op_catT : OpR X (binaryOp .Add) (rCatT X.K) := by
  intro pins s σ H x y v u Q I rx ry h
  obtain ⟨a, b, xs, ys, rfl, rfl, ha, hb, hx, hz, q1, q2⟩ := h
  cases rx
  cases ry
  obtain ⟨its, r1, p1, _⟩ := I.tuple ha
  obtain ⟨its2, r2, p2, _⟩ := I.tuple hb
  refine HT.cat_tup p1 p2 (fun z => hx (r1.nil_iff.mp z)) (fun z => ⟨.ref a, H, I, rfl, q1 (r2.nil_iff.mp z)⟩) (fun z => ?_) (by rw [← r1.length, ← r2.length]; exact hz)
  refine ⟨.ref s.heap.objs.size, _, I.laid (t' := s.toks) (o := .tup (xs ++ ys)) (fun b ob q => Heap.get?_push_of_some _ q) (Nat.le_refl _) ?_, rfl, q2 (fun w => z (r2.nil_iff.mpr w)) _ (I.hok.fresh (Nat.le_refl _))⟩
  exact ⟨by rw [List.length_append]; exact hz, _, r1.append r2, IsTup.new _ _⟩
end
end L2

namespace L2
open PySem PySem.Spec PyProof.Rows

/-! ### places -/
/-- the place that an index of any sign means -/
def ixN (n : Nat) (i : Int) : Option Nat := if 0 ≤ i then (if i < n then some i.toNat else none) else if -(n : Int) ≤ i then some (i + n).toNat else none
def atI {α : Type} (xs : List α) (i : Int) : Option α := (ixN xs.length i).bind fun j => xs[j]?
theorem ixN_seq {n : Nat} {i : Int} {j : Nat} (h : ixN n i = some j) : seqIndex? i n = some j ∧ j < n ∧ -(n : Int) ≤ i ∧ i < n := by
  unfold ixN at h
  by_cases h0 : 0 ≤ i
  · rw [if_pos h0] at h
    by_cases h1 : i < n
    · rw [if_pos h1] at h
      have e : i.toNat = j := Option.some.inj h
      exact ⟨by rw [seqIndex_of h0 h1, e], by omega, by omega, h1⟩
    · rw [if_neg h1] at h; cases h
  · rw [if_neg h0] at h
    by_cases h1 : -(n : Int) ≤ i
    · rw [if_pos h1] at h
      have e : (i + n).toNat = j := Option.some.inj h
      exact ⟨by rw [seqIndex_neg (by omega) h1, e], by omega, h1, by omega⟩
    · rw [if_neg h1] at h; cases h
theorem atI_get {α : Type} {xs : List α} {i : Int} {v : α} (h : atI xs i = some v) : ∃ j, seqIndex? i xs.length = some j ∧ xs[j]? = some v ∧ j < xs.length ∧ -(xs.length : Int) ≤ i ∧ i < xs.length := by
  unfold atI at h
  cases e : ixN xs.length i with
  | none => rw [e] at h; cases h
  | some j =>
    rw [e] at h
    obtain ⟨h1, h2, h3, h4⟩ := ixN_seq e
    exact ⟨j, h1, h, h2, h3, h4⟩
theorem atI_nat {α : Type} {xs : List α} {j : Nat} {v : α} (h : xs[j]? = some v) : atI xs (j : Int) = some v := by
  have hj : j < xs.length := (List.getElem?_eq_some_iff.mp h).1
  have e : ixN xs.length (j : Int) = some j := by
    unfold ixN
    rw [if_pos (by omega), if_pos (by omega)]; simp
  unfold atI; rw [e]; exact h

/-! ### what may be subscripted -/
/-- what stands as an index of a plain subscript -/
def PlainIx (b : Expr) : Prop := ∀ o i, subscripted b false o i = operate [o, i] (getItem o i)
/-- a subscript by values -/
def IxR (X : Cx) (r : R2) : Prop :=
  ∀ (value slice : Expr) (pins : List (Addr × Obj)) (s : Shared) (σ : St) (H : Hp) (x y : V) (v u : Value) (Q : VK), Inv X pins σ H s → RelV x v → RelV y u → r x y H Q →
    subscripted slice false v u = operate [v, u] (getItem v u) → wpAny (model X.prog X.w) X.A (subscriptTail value slice v u) (EP X pins σ Q) X.xe s
/-- a call of a builtin's method by values: the receiver, the arguments -/
def MtR (X : Cx) (id : String) (r : V → List V → Hp → VK → Prop) : Prop :=
  ∀ (pins : List (Addr × Obj)) (s : Shared) (σ : St) (H : Hp) (x : V) (xs : List V) (v : Value) (us : List Value) (Q : VK), Inv X pins σ H s → RelV x v → Vals xs us → r x xs H Q →
    wpAny (model X.prog X.w) X.A (call (.builtin id) (v :: us)) (EP X pins σ Q) X.xe s
section
variable {X : Cx} {a b : Expr} {ta tb : TE} {pos : Pos}
theorem IxR.or {r r' : R2} (h : IxR X r) (h' : IxR X r') : IxR X (fun x y H Q => r x y H Q ∨ r' x y H Q) := by
  intro value slice pins s σ H x y v u Q I rx ry q hs
  rcases q with q | q
  · exact h value slice pins s σ H x y v u Q I rx ry q hs
  · exact h' value slice pins s σ H x y v u Q I rx ry q hs
theorem MtR.or {id : String} {r r' : V → List V → Hp → VK → Prop} (h : MtR X id r) (h' : MtR X id r') : MtR X id (fun x xs H Q => r x xs H Q ∨ r' x xs H Q) := by
  intro pins s σ H x xs v us Q I rx rs q
  rcases q with q | q
  · exact h pins s σ H x xs v us Q I rx rs q
  · exact h' pins s σ H x xs v us Q I rx rs q
/-- a[b] -/
theorem pe_ix {r : R2} (hr : IxR X r) (ha : PE X a ta) (hb : PE X b tb) (hs : PlainIx b) : PE X (.Subscript a b pos) (tOp r ta tb) := by
  intro pins s σ H Q I h
  exact Subscript_ (binT ha hb I h fun v u s2 x y H2 I2 rx ry q => hr a b pins s2 σ H2 x y v u Q I2 rx ry q (hs _ _))

def rIxL (K : PySem.W.Frag) : R2 := fun x y H Q => ∃ p xs i v, x = .ref p ∧ y = .int i ∧ SqL K H p xs ∧ atI xs i = some v ∧ Q v H
def rIxT (K : PySem.W.Frag) : R2 := fun x y H Q => ∃ p xs i v, x = .ref p ∧ y = .int i ∧ SqT K H p xs ∧ atI xs i = some v ∧ Q v H
def rIxS : R2 := fun x y H Q => ∃ z i c, x = .str z ∧ y = .int i ∧ z.length ≤ sizeLine ∧ atI z.cps.toList i = some c ∧ Q (.str ⟨#[c]⟩) H
theorem ix_list : IxR X (rIxL X.K) := by
  intro value slice pins s σ H x y v u Q I rx ry h hs
  obtain ⟨p, xs, i, z, rfl, rfl, hq, he, q⟩ := h
  cases rx
  obtain ⟨t, rfl⟩ := ry
  obtain ⟨its, r, pl, hz⟩ := I.list hq
  obtain ⟨j, h1, h2, h3, h4, h5⟩ := atI_get he
  obtain ⟨w, ew, rw'⟩ := r.get h2
  have hl := r.length
  have hn := line63
  have fin : EP X pins σ Q w s := ⟨z, H, I, rw', q⟩
  by_cases h0 : 0 ≤ i
  · have hj : i.toNat = j := by
      rw [seqIndex_of h0 h5] at h1
      exact Option.some.inj h1
    exact item_listR pl.isList h0 (by omega) (by rw [hj]; simpa using ew) fin hs
  · have hj : (i + (its.toArray.size : Int)).toNat = j := by
      rw [seqIndex_neg (by omega) h4] at h1
      rw [List.size_toArray, ← hl]
      exact Option.some.inj h1
    exact subscriptTail_builtinR (x := w) pl.isList.typeIs slot_list_getitem.lookup
      (wpAny_getItem_list_neg (Q := fun r s' => r = w ∧ EP X pins σ Q r s') pl.isList (by omega) (by rw [List.size_toArray] <;> omega) (by omega) (by rw [hj]; simpa using ew) ⟨rfl, fin⟩) hs
theorem ix_tup : IxR X (rIxT X.K) := by
  intro value slice pins s σ H x y v u Q I rx ry h hs
  obtain ⟨p, xs, i, z, rfl, rfl, hq, he, q⟩ := h
  cases rx
  obtain ⟨t, rfl⟩ := ry
  obtain ⟨its, r, pl, hz⟩ := I.tuple hq
  obtain ⟨j, h1, h2, h3, h4, h5⟩ := atI_get he
  obtain ⟨w, ew, rw'⟩ := r.get h2
  have hl := r.length
  have hn := line63
  have fin : EP X pins σ Q w s := ⟨z, H, I, rw', q⟩
  exact subscriptTail_builtinR (x := w) pl.typeIs slot_tuple_getitem.lookup
    (getItem_tuple (j := j) (Q := fun r s' => r = w ∧ EP X pins σ Q r s') pl (by omega) (by omega) (by rw [List.size_toArray, ← hl]; exact h1) (by simpa using ew) ⟨rfl, fin⟩) hs
theorem ix_str : IxR X rIxS := by
  intro value slice pins s σ H x y v u Q I rx ry h hs
  obtain ⟨z, i, c, rfl, rfl, hz, he, q⟩ := h
  obtain ⟨t, rfl⟩ := rx
  obtain ⟨t', rfl⟩ := ry
  obtain ⟨j, h1, h2, h3, h4, h5⟩ := atI_get he
  have hl : z.cps.toList.length = z.length := by simp [Str.length]
  rw [hl] at h1 h4 h5
  have hn := line63
  exact tail_any (typeIs_str s z t) slot_str_getitem.lookup (getItem_str (c := c) (by
    have e1 : decide (i < -(2 ^ 63 : Int)) = false := decide_eq_false (by omega)
    have e2 : decide (i ≥ 2 ^ 63) = false := decide_eq_false (by omega)
    rw [e1, e2, Bool.or_false]) (by rw [h1]; simpa using h2) ⟨.str ⟨#[c]⟩, H, I.tok _, ⟨_, rfl⟩, q⟩) hs
/-- list, tuple or str -/
def rIx (K : PySem.W.Frag) : R2 := fun x y H Q => rIxL K x y H Q ∨ rIxT K x y H Q ∨ rIxS x y H Q
theorem ix_seq : IxR X (rIx X.K) := ix_list.or (ix_tup.or ix_str)

/-! ### xs[i] = v, any sign -/
theorem Inv.lst {pins : List (Addr × Obj)} {σ : St} {H : Hp} {s : Shared} {p : Addr} {xs : List V} (I : Inv X pins σ H s) (h : H p = some (.lst xs)) :
    ∃ (its : List Value) (n : Nat), Vals xs its ∧ s.heap.get? p = some { cls := .type "list", data := .seq its.toArray n } ∧ xs.length ≤ sizeLine := by
  obtain ⟨z, its, n, r, e⟩ := I.hok p _ h
  exact ⟨its, n, r, e, z⟩

/-! ### slices -/
theorem slice_bounds (lo hi : Option Int) (n : Nat) : (sliceBounds lo hi none n).1 = ((HT.sIx n 0 lo : Nat) : Int) ∧ (sliceBounds lo hi none n).2.1 = ((HT.sIx n n hi : Nat) : Int) ∧ (sliceBounds lo hi none n).2.2 = 1 := by
  refine ⟨?_, ?_, rfl⟩
  · cases lo with
    | none => simp [sliceBounds, HT.sIx]
    | some i =>
      simp only [sliceBounds, HT.sIx, Option.getD_none, show (1 : Int) > 0 by decide, if_true]
      by_cases h : i < 0
      · simp only [h, if_true] <;> omega
      · simp only [h, if_false] <;> omega
  · cases hi with
    | none => simp [sliceBounds, HT.sIx]
    | some i =>
      simp only [sliceBounds, HT.sIx, Option.getD_none, show (1 : Int) > 0 by decide, if_true]
      by_cases h : i < 0
      · simp only [h, if_true] <;> omega
      · simp only [h, if_false] <;> omega
theorem slicePick_cut (its : List Value) (lo hi : Option Int) : slicePick its.toArray lo hi none = ((its.drop (HT.sIx its.length 0 lo)).take (HT.sIx its.length its.length hi - HT.sIx its.length 0 lo)).toArray := by
  obtain ⟨h1, h2, h3⟩ := slice_bounds lo hi its.toArray.size
  unfold slicePick
  rw [h1, h2, h3]
  simp only [sliceRange_one, pick_run, List.size_toArray] <;> rfl
/-- xs[lo:hi] of a list: a new list -/
def rSlL (K : PySem.W.Frag) : V → Option Int → Option Int → Hp → VK → Prop := fun x lo hi H Q => ∃ a xs, x = .ref a ∧ SqL K H a xs ∧ ∀ p, H p = none → Q (.ref p) (upd H p (.lst (cutV xs lo hi)))
theorem sl_list : SlR X (rSlL X.K) := by
  intro pins s σ H x v vl vu lo hi sl Q I rx hs pl pu h
  obtain ⟨a, xs, rfl, hx, q⟩ := h
  cases rx
  obtain ⟨its, r, ht, hz⟩ := I.list hx
  have hlen := r.length
  refine ⟨"list", _, slot_list_getitem.lookup, ht.isList.typeIs, ?_⟩
  refine wpAny_getItem_list_slice ht.isList hs pl pu .none (by simp) ?_ (by rw [List.size_toArray] <;> omega)
  rw [slicePick_cut, ← hlen]
  refine ⟨.ref s.heap.objs.size, _, I.laid (t' := s.toks) (o := .lst (cutV xs lo hi)) (fun b ob q => Heap.get?_push_of_some _ q) (Nat.le_refl _) ?_, rfl, q _ (I.hok.fresh (Nat.le_refl _))⟩
  exact ⟨Nat.le_trans (cutV_length xs lo hi) hz, _, 0, (r.drop (HT.sIx xs.length 0 lo)).take (HT.sIx xs.length xs.length hi - HT.sIx xs.length 0 lo), Heap.get?_push_size _ rfl⟩

/-! ### in, not in: flat items -/
def flatV : V → Bool
  | .non => true
  | .bl _ => true
  | .int _ => true
  | .str _ => true
  | _ => false
/-- == of flat values -/
def eqV : V → V → Bool
  | .non, .non => true
  | .bl a, .bl b => a == b
  | .bl a, .int b => (if a then 1 else 0) == b
  | .int a, .bl b => a == (if b then 1 else 0)
  | .int a, .int b => a == b
  | .str a, .str b => a == b
  | _, _ => false
theorem eqAt_V {A : Around} {s : Shared} {y x : V} {u v : Value} (ry : RelV y u) (rx : RelV x v) (fy : flatV y = true) (fx : flatV x = true) : SeqAt.EqAt A s u v (eqV y x) := by
  cases y with
  | non =>
    cases ry
    cases x with
    | non => cases rx; exact SeqAt.EqAt.same _
    | bl b => cases rx; exact SeqAt.EqAt.none_bool b
    | int b => obtain ⟨t, rfl⟩ := rx; exact SeqAt.EqAt.none_int b t
    | str b => obtain ⟨t, rfl⟩ := rx; exact SeqAt.EqAt.none_str b t
    | _ => exact absurd (show false = true from fx) Bool.false_ne_true
  | bl a =>
    cases ry
    cases x with
    | non => cases rx; exact SeqAt.EqAt.bool_none a
    | bl b => cases rx; exact SeqAt.EqAt.bool_bool a b
    | int b => obtain ⟨t, rfl⟩ := rx; exact SeqAt.EqAt.bool_int a b t
    | str b => obtain ⟨t, rfl⟩ := rx; exact SeqAt.EqAt.bool_str a b t
    | _ => exact absurd (show false = true from fx) Bool.false_ne_true
  | int a =>
    obtain ⟨t', rfl⟩ := ry
    cases x with
    | non => cases rx; exact SeqAt.EqAt.int_none a t'
    | bl b => cases rx; exact SeqAt.EqAt.int_bool a t' b
    | int b => obtain ⟨t, rfl⟩ := rx; exact SeqAt.EqAt.int_int a t' b t
    | str b => obtain ⟨t, rfl⟩ := rx; exact SeqAt.EqAt.int_str a t' b t
    | _ => exact absurd (show false = true from fx) Bool.false_ne_true
  | str a =>
    obtain ⟨t', rfl⟩ := ry
    cases x with
    | non => cases rx; exact SeqAt.EqAt.str_none a t'
    | bl b => cases rx; exact SeqAt.EqAt.str_bool a t' b
    | int b => obtain ⟨t, rfl⟩ := rx; exact SeqAt.EqAt.str_int a t' b t
    | str b => obtain ⟨t, rfl⟩ := rx; exact SeqAt.EqAt.str_str a t' b t
    | _ => exact absurd (show false = true from fx) Bool.false_ne_true
  | _ => exact absurd (show false = true from fy) Bool.false_ne_true
/-- the items' answers, read off the values (a value's own answer does not lean on its token) -/
def eqU (x : V) (u : Value) : Bool := match u with
  | .none => eqV .non x
  | .bool b => eqV (.bl b) x
  | .int i _ => eqV (.int i) x
  | .str z _ => eqV (.str z) x
  | _ => false
theorem eqU_of {x y : V} {u : Value} (r : RelV y u) (f : flatV y = true) : eqU x u = eqV y x := by
  cases y with
  | non => cases r; rfl
  | bl b => cases r; rfl
  | int i => obtain ⟨t, rfl⟩ := r; rfl
  | str z => obtain ⟨t, rfl⟩ := r; rfl
  | _ => exact absurd (show false = true from f) Bool.false_ne_true
theorem any_eqU {x : V} : ∀ {xs : List V} {us : List Value}, Vals xs us → xs.all flatV = true → us.any (eqU x) = xs.any fun y => eqV y x
  | _, _, .nil, _ => rfl
  | y :: xs, u :: us, .cons r t, f => by
    rw [List.all_cons, Bool.and_eq_true] at f
    rw [List.any_cons, List.any_cons, eqU_of r f.1, any_eqU t f.2]
theorem mem_eqAt {A : Around} {s : Shared} {x : V} {v : Value} (rx : RelV x v) (fx : flatV x = true) : ∀ {xs : List V} {us : List Value}, Vals xs us → xs.all flatV = true → ∀ u ∈ us, SeqAt.EqAt A s u v (eqU x u)
  | _, _, .nil, _ => fun u hu => by cases hu
  | y :: xs, u :: us, .cons r t, f => fun u' hu => by
    rw [List.all_cons, Bool.and_eq_true] at f
    rcases List.mem_cons.mp hu with rfl | hu
    · rw [eqU_of r f.1]; exact eqAt_V r rx f.1 fx
    · exact mem_eqAt rx fx t f.2 u' hu
def inV (x : V) (xs : List V) : Bool := xs.any fun y => eqV y x
/-- x in a list or tuple of flat items -/
def rIn (K : PySem.W.Frag) (neg : Bool) : R2 := fun x y H Q => ∃ p xs, y = .ref p ∧ (SqL K H p xs ∨ SqT K H p xs) ∧ flatV x = true ∧ xs.all flatV = true ∧ Q (.bl (if neg then !inV x xs else inV x xs)) H
theorem op_in_seq : OpR X (compareOp .In) (rIn X.K false) := by
  intro pins s σ H x y v u Q I rx ry h
  obtain ⟨p, xs, rfl, hq, fx, fs, q⟩ := h
  cases ry
  rcases hq with hq | hq
  · obtain ⟨its, r, pl, hz⟩ := I.list hq
    refine SeqAt.in_listAt (eqU x) pl.isList (fun w hw => mem_eqAt rx fx r fs w (by simpa using hw)) ⟨.bl _, H, I, rfl, ?_⟩
    rw [show its.toArray.any (eqU x) = its.any (eqU x) by simp, any_eqU r fs]
    exact q
  · obtain ⟨its, r, pl, hz⟩ := I.tuple hq
    refine SeqAt.in_tupleAt (eqU x) pl (fun w hw => mem_eqAt rx fx r fs w (by simpa using hw)) ⟨.bl _, H, I, rfl, ?_⟩
    rw [show its.toArray.any (eqU x) = its.any (eqU x) by simp, any_eqU r fs]
    exact q
theorem op_notIn_seq : OpR X (compareOp .NotIn) (rIn X.K true) := by
  intro pins s σ H x y v u Q I rx ry h
  obtain ⟨p, xs, rfl, hq, fx, fs, q⟩ := h
  cases ry
  rcases hq with hq | hq
  · obtain ⟨its, r, pl, hz⟩ := I.list hq
    refine SeqAt.notIn_listAt (eqU x) pl.isList (fun w hw => mem_eqAt rx fx r fs w (by simpa using hw)) ⟨.bl _, H, I, rfl, ?_⟩
    rw [show its.toArray.any (eqU x) = its.any (eqU x) by simp, any_eqU r fs]
    exact q
  · obtain ⟨its, r, pl, hz⟩ := I.tuple hq
    refine SeqAt.notIn_tupleAt (eqU x) pl (fun w hw => mem_eqAt rx fx r fs w (by simpa using hw)) ⟨.bl _, H, I, rfl, ?_⟩
    rw [show its.toArray.any (eqU x) = its.any (eqU x) by simp, any_eqU r fs]
    exact q

/-! ### len, list(x), tuple(x) of any list or tuple that is read -/
theorem call_len_seq : CallR X (.builtin "len") (fun xs H Q => ∃ p ys, xs = [.ref p] ∧ (SqL X.K H p ys ∨ SqT X.K H p ys) ∧ Q (.int ys.length) H) := by
  intro pins s σ H xs us Q I r h
  obtain ⟨p, ys, rfl, hq, q⟩ := h
  obtain ⟨u, rfl, rx⟩ := vals1 r
  cases rx
  have hn := line63
  rcases hq with hq | hq
  · obtain ⟨its, r', pl, hz⟩ := I.list hq
    have hlen := r'.length
    exact Calls.call_len_list pl.isList (by simp only [List.size_toArray] <;> omega) ⟨.int ys.length, H, I.tok _, ⟨s.toks + 1, by rw [List.size_toArray, hlen]⟩, q⟩
  · obtain ⟨its, r', pl, hz⟩ := I.tuple hq
    have hlen := r'.length
    exact len_tuple pl (by simp only [List.size_toArray] <;> omega) ⟨.int ys.length, H, I.tok _, ⟨s.toks + 1, by rw [List.size_toArray, hlen]⟩, q⟩
theorem call_len_str : CallR X (.builtin "len") (fun xs H Q => ∃ z, xs = [.str z] ∧ z.length ≤ sizeLine ∧ Q (.int z.length) H) := by
  intro pins s σ H xs us Q I r h
  obtain ⟨z, rfl, hz, q⟩ := h
  obtain ⟨u, rfl, t, rfl⟩ := vals1 r
  have hn := line63
  exact len_str (by omega) ⟨.int z.length, H, I.tok _, ⟨_, rfl⟩, q⟩
theorem CallR.or {f : Value} {r r' : List V → Hp → VK → Prop} (h : CallR X f r) (h' : CallR X f r') : CallR X f (fun xs H Q => r xs H Q ∨ r' xs H Q) := by
  intro pins s σ H xs us Q I rs q
  rcases q with q | q
  · exact h pins s σ H xs us Q I rs q
  · exact h' pins s σ H xs us Q I rs q
theorem call_list_of : CallR X (.type "list") (fun xs H Q => ∃ p ys, xs = [.ref p] ∧ (SqL X.K H p ys ∨ SqT X.K H p ys) ∧ ∀ l, H l = none → Q (.ref l) (upd H l (.lst ys))) := by
  intro pins s σ H xs us Q I r h
  obtain ⟨p, ys, rfl, hq, q⟩ := h
  obtain ⟨u, rfl, rx⟩ := vals1 r
  cases rx
  have fin : ∀ (its : List Value), Vals ys its → ys.length ≤ sizeLine → ∀ (h' : Heap) (c' : Nat), (∀ b o', s.heap.get? b = some o' → h'.get? b = some o') →
      h'.get? s.heap.objs.size = some { cls := .type "list", dict := none, data := .seq its.toArray c', slots := #[] } → EP X pins σ Q (.ref s.heap.objs.size) { s with heap := h' } := fun its r' hz h' c' kp e =>
    ⟨.ref s.heap.objs.size, _, I.laid (t' := s.toks) kp (Nat.le_refl _) (show ObjOk X.prog X.w _ h' _ (.lst ys) from ⟨hz, its, c', r', e⟩), rfl, q _ (I.hok.fresh (Nat.le_refl _))⟩
  rcases hq with hq | hq
  · obtain ⟨its, r', pl, hz⟩ := I.list hq
    have hlen := r'.length
    obtain ⟨o, ho, hc, n, hd⟩ := pl.isList
    exact call_list_seq p (.inl rfl) ho hc hd (fun h' c' kp e => fin its r' hz h' c' kp e) (by simp only [List.size_toArray] <;> omega)
  · obtain ⟨its, r', pl, hz⟩ := I.tuple hq
    have hlen := r'.length
    obtain ⟨o, ho, hc, n, hd⟩ := pl
    exact call_list_seq p (.inr rfl) ho hc hd (fun h' c' kp e => fin its r' hz h' c' kp e) (by simp only [List.size_toArray] <;> omega)
theorem call_tuple_of : CallR X (.type "tuple") (fun xs H Q => ∃ p ys, xs = [.ref p] ∧ ((SqL X.K H p ys ∧ ∀ l, H l = none → Q (.ref l) (upd H l (.tup ys))) ∨ (SqT X.K H p ys ∧ Q (.ref p) H))) := by
  intro pins s σ H xs us Q I r h
  obtain ⟨p, ys, rfl, h⟩ := h
  obtain ⟨u, rfl, rx⟩ := vals1 r
  cases rx
  rcases h with ⟨hq, q⟩ | ⟨hq, q⟩
  · obtain ⟨its, r', pl, hz⟩ := I.list hq
    have hlen := r'.length
    refine call_tuple_list pl.isList (fun h' kp => ?_) (by simp only [List.size_toArray] <;> omega)
    have I1 : Inv X pins σ H { s with heap := h' } := I.kept (t' := s.toks) kp
    have I2 : Inv X pins σ (upd H h'.objs.size (.tup ys)) { s with heap := h'.push { cls := .type "tuple", data := .seq its.toArray } } :=
      I1.laid (t' := s.toks) (fun b o e => Heap.get?_push_of_some _ e) (Nat.le_refl _) (show ObjOk X.prog X.w _ _ _ (.tup ys) from ⟨hz, its, r', IsTup.new _ _⟩)
    exact ⟨.ref h'.objs.size, _, I2, rfl, q _ (I1.hok.fresh (Nat.le_refl _))⟩
  · obtain ⟨its, r', pl, hz⟩ := I.tuple hq
    exact call_tuple_same pl ⟨.ref p, H, I, rfl, q⟩

/-! ### the call of a builtin's method: o.m(..) -/
/-- the value is of that builtin type -/
def tyV (K : PySem.W.Frag) (T : String) (x : V) (H : Hp) : Prop := match x with
  | .str _ => T = "str"
  | .int _ => T = "int"
  | .ref p => (T = "list" ∧ ∃ xs, SqL K H p xs) ∨ (T = "tuple" ∧ ∃ o, K.lookup p = some o ∧ o.cls = .type "tuple" ∧ o.dict = none) ∨
      (T = "dict" ∧ ((∃ kvs, H p = some (.dK kvs)) ∨ ∃ kvs, H p = some (.dT kvs))) ∨ (T = "set" ∧ ∃ S n, H p = some (.set S n))
  | _ => False
theorem tyV_is {pins : List (Addr × Obj)} {σ : St} {H : Hp} {s : Shared} {T : String} {x : V} {v : Value} (I : Inv X pins σ H s) (r : RelV x v) (ty : tyV X.K T x H) :
    s.TypeIs v T ∧ ∀ a, v = .ref a → ∃ ob, s.heap.get? a = some ob ∧ ob.dict = none := by
  cases x with
  | str z =>
    obtain ⟨t, rfl⟩ := r
    cases (show T = "str" from ty)
    exact ⟨typeIs_str s z t, fun _ e => nomatch e⟩
  | int i =>
    obtain ⟨t, rfl⟩ := r
    cases (show T = "int" from ty)
    exact ⟨typeIs_int s i t, fun _ e => nomatch e⟩
  | ref p =>
    cases r
    rcases ty with ⟨rfl, xs, hq⟩ | ⟨rfl, o, hk, hc, hd⟩ | ⟨rfl, hk⟩ | ⟨rfl, S, n, hk⟩
    · obtain ⟨its, _, pl, _⟩ := I.list hq
      refine ⟨pl.isList.typeIs, fun a e => ?_⟩
      cases e
      obtain ⟨o, n, e, c, hd, _⟩ := pl
      exact ⟨o, e, hd⟩
    · refine ⟨⟨o, I.kIn p o hk, hc⟩, fun a e => ?_⟩
      cases e
      exact ⟨o, I.kIn _ o hk, hd⟩
    · have z : ∃ o, s.heap.get? p = some o ∧ o.ExactDict := by
        rcases hk with ⟨kvs, hk⟩ | ⟨kvs, hk⟩
        · obtain ⟨_, _, _, _, o, _, _, e, ex, _⟩ := I.hok p _ hk
          exact ⟨o, e, ex⟩
        · obtain ⟨_, _, _, _, o, _, _, e, ex, _⟩ := I.hok p _ hk
          exact ⟨o, e, ex⟩
      obtain ⟨o, e, ex⟩ := z
      refine ⟨⟨o, e, ex.1⟩, fun a e2 => ?_⟩
      cases e2
      exact ⟨o, e, ex.2.1⟩
    · obtain ⟨o, _, _, _, e, ex, _⟩ := I.hok p _ hk
      refine ⟨⟨o, e, ex.1⟩, fun a e2 => ?_⟩
      cases e2
      exact ⟨o, e, ex.2.1⟩
  | _ => exact False.elim ty
def tBM (K : PySem.W.Frag) (T : String) (r : V → List V → Hp → VK → Prop) (to : TE) (t : TA) : TE := fun σ H Q => to σ H fun x H1 => tyV K T x H1 ∧ t σ H1 fun xs H2 => r x xs H2 Q
variable {o e : Expr} {es : List Expr} {to : TE} {t : TA} {name : Str} {apos cpos : Pos} {T id : String} {r : V → List V → Hp → VK → Prop}
theorem pe_bm (pa : PlainAttrs T) (slot : Slot T name id) (hty : typeOf (.builtin id) = pure (.type "method_descriptor")) (hm : MtR X id r) (ho : PE X o to) (ha : PA X (e :: es) t)
    (hbase : attributeBase o name X.env (eval o X.env) = eval o X.env := by rfl)
    (hfew : ((backTo cpos (starEach (e :: es) X.env)).all (fun x => !x.1) && (backToKw cpos (keywordEach [] X.env)).all (fun x => x.1.isSome)
      && decide ((e :: es).length + ([] : List Keyword).length + (if ([] : List Keyword).isEmpty then 0 else 1) < 30)) = true := by rfl)
    (hline : (apos.endLine == cpos.line) = true := by rfl) (hs : starEach (e :: es) X.env = (false, eval e X.env) :: starEach es X.env := by rfl) (hplain : (backTo cpos (starEach es X.env)).any (·.1) = false := by rfl) :
    PE X (.Call (.Attribute o name apos) (e :: es) [] cpos) (tBM X.K T r to t) := by
  intro pins s σ H Q I h
  refine wpAny_Call_method_late hbase hfew hline rfl (thn (ho pins s σ H _ I h) fun v s1 ⟨x, H1, I1, r1, ty, q1⟩ => ?_)
  obtain ⟨h1, h2⟩ := tyV_is I1 r1 ty
  refine ⟨T, id, pa, slot, hty, h1, h2, ?_⟩
  have hA := ha cpos pins s1 σ H1 _ I1 q1
  rw [hs] at hA ⊢
  refine Calls.callWith_builtin (by show (false || (backTo cpos (starEach es X.env)).any (·.1)) = false; rw [hplain] <;> rfl) (Calls.evalArgs_plain ?_)
  exact thn hA fun us s2 ⟨vs, H2, I2, r2, q2⟩ => hm pins s2 σ H2 x vs v us Q I2 r1 r2 q2
/- xs.append(e), list.index on a module's tuple .. are MtR facts of 06m -/
end
end L2

namespace L2
open PySem PySem.Spec PyProof.Rows

def MtM (X : Cx) (id : String) (r : V → List V → Hp → VK → Prop) : Prop :=
  ∀ (pins : List (Addr × Obj)) (s : Shared) (σ : St) (H : Hp) (x : V) (xs : List V) (v : Value) (us : List Value) (Q : VK), Inv X pins σ H s → RelV x v → Vals xs us → r x xs H Q →
    wpAny (model X.prog X.w) X.A (call (.builtin id) (v :: us)) (EP X pins σ Q) X.xe s

/-! ### lists of values -/
theorem Vals.one : ∀ {x : V} {us : List Value}, Vals [x] us → ∃ u, us = [u] ∧ RelV x u
  | _, _, .cons r .nil => ⟨_, rfl, r⟩
theorem Vals.two : ∀ {x y : V} {us : List Value}, Vals [x, y] us → ∃ u v, us = [u, v] ∧ RelV x u ∧ RelV y v
  | _, _, _, .cons r (.cons q .nil) => ⟨_, _, rfl, r, q⟩
theorem Vals.zero : ∀ {us : List Value}, Vals [] us → us = []
  | _, .nil => rfl
theorem Vals.dropLast {xs : List V} {us : List Value} (h : Vals xs us) : Vals xs.dropLast us.dropLast := by
  induction h with
  | nil => exact .nil
  | cons r t ih =>
    cases t with
    | nil => exact .nil
    | cons q t' => exact .cons r ih
theorem Vals.reverse {xs : List V} {us : List Value} (h : Vals xs us) : Vals xs.reverse us.reverse := by
  induction h with
  | nil => exact .nil
  | cons r t ih => rw [List.reverse_cons, List.reverse_cons]; exact Vals.append ih (.cons r .nil)

section
variable {X : Cx} {pins : List (Addr × Obj)} {σ : St} {H : Hp} {s : Shared} {l b : Addr} {xs ys zs : List V}

/-! ### the two steps: a tracked list is rewritten, a new list is laid -/
theorem Inv.lset {its its' : List Value} {n : Nat} {f : Array Value → Array Value} {t' : Nat} (I : Inv X pins σ H s) (hH : H l = some (.lst xs))
    (e : s.heap.get? l = some { cls := .type "list", data := .seq its.toArray n }) (hf : f its.toArray = its'.toArray) (hv : Vals ys its') (hz : ys.length ≤ sizeLine) :
    Inv X pins σ (upd H l (.lst ys)) { s with heap := s.heap.update l (Obj.mapSeq f), toks := t' } := by
  have q := PySem.IsL.update e f
  rw [hf] at q
  refine I.write (x := l) (e := l) (by rw [hH]; exact trivial) (.inl rfl) (fun b' u hb hu => (Heap.get?_update_other s.heap (Obj.mapSeq f) (Ne.symm hb)).trans hu) ⟨_, q⟩ ?_
  exact ⟨hz, its', _, hv, q⟩
theorem Inv.fresh (I : Inv X pins σ H s) : H s.heap.objs.size = none := I.hok.fresh (Nat.le_refl _)
theorem Inv.lstM (I : Inv X pins σ H s) (hH : H l = some (.lst xs)) : xs.length ≤ sizeLine ∧ ∃ (its : List Value) (n : Nat), Vals xs its ∧ xs.length = its.length ∧ s.heap.get? l = some { cls := .type "list", data := .seq its.toArray n } := by
  obtain ⟨z, its, n, r, e⟩ := I.hok l _ hH
  exact ⟨z, its, n, r, r.length, e⟩

end

section
variable {X : Cx}

/-! ### methods -/
def rAppend : V → List V → Hp → VK → Prop := fun x vs H Q => ∃ l xs y, x = .ref l ∧ vs = [y] ∧ H l = some (.lst xs) ∧ xs.length < sizeLine ∧ Q .non (upd H l (.lst (xs ++ [y])))
theorem mt_append : MtM X "list.append" rAppend := by
  intro pins s σ H x vs v us Q I rx rv h
  obtain ⟨l, xs, y, rfl, rfl, hH, hz, q⟩ := h
  cases rx
  obtain ⟨u, rfl, ru⟩ := rv.one
  obtain ⟨z, its, n, r, hl, e⟩ := I.lstM hH
  refine call_meets F.slot_list_append ⟨_, e, rfl⟩ F.entry_list_append (F.args_list_append_2 _ _) (PySem.list_append l its.toArray n u (by rw [List.size_toArray]; omega)) ⟨e, ?_⟩
  refine ⟨.non, _, I.lset (its' := its ++ [u]) hH e (by simp) (r.append (.cons ru .nil)) ?_, rfl, q⟩
  rw [List.length_append, List.length_singleton]
  omega






/-! ### list + list, list += list, list * int -/

/-! ### del xs[i] -/
end

/-! ### xs[a:b] = ys -/
section
variable {prog : Program} {w : World} {A : Around} {E : Value → Shared → Prop} {s : Shared}
set_option maxRecDepth 100000 in
end

section
variable {X : Cx}
end
end L2

namespace Att
open PySem PySem.W PySem.Calls PyProof.Rows

/-! ### the script -/
theorem ints_of_wellAll {P : Params} {h : Heap} : ∀ (ns : List Int) (vs : List Value), WellAll P h vs (ns.map WData.int) → IntsAre vs ns := by
  intro ns
  induction ns with
  | nil =>
    intro vs w
    rw [List.map_nil] at w
    cases w
    exact .nil
  | cons n ns ih =>
    intro vs w
    rw [List.map_cons] at w
    cases w with
    | cons a b =>
      cases a
      exact .cons _ _ (ih _ b)

theorem script_of {l : OpenLaw} {n : Nat} (hn : l.most = some n) {P : Params} {h : Heap} {args : List WData} {vals : List Value}
    (hpre : l.row.toRowW.claim.pre args = true) (hwl : WellAll P h vals args) :
    ∃ a vs ns, vals = [Value.ref a] ∧ args = [WData.list (ns.map WData.int)] ∧ h.get? a = some { cls := .type "list", data := .seq vs.toArray } ∧ IntsAre vs ns ∧ ns.length ≤ n := by
  have hsh : WShape.hasAll [] args [.list .int] = true := (pre_splitW hpre).1
  have hc : l.pre.holds [] { args := args } = true := (pre_splitW hpre).2
  obtain ⟨d, r, rfl, h1, h2⟩ := hasAllW_cons hsh
  obtain rfl := hasAllW_nil h2
  obtain ⟨xs, rfl, h3⟩ := hasW_list h1
  obtain ⟨ns, rfl⟩ := items_int h3
  have hlen : ns.length ≤ n := by
    unfold OpenLaw.pre at hc
    have h4 : (WTm.not (.lt (.lit (.int (n : Int))) (.len (.arg 0)))).holds [] { args := [.list (ns.map .int)] } = true := by
      have h4 := (holds_andW hc).1
      rw [hn] at h4
      exact h4
    have h5 := condW_of h4 (w_not (w_lt w_lit (w_len_list (w_arg rfl))))
    rw [List.length_map] at h5
    refine Nat.le_of_not_lt fun q => ?_
    have q' : (n : Int) < ((ns.length : Nat) : Int) := by omega
    first
      | (rw [decide_eq_true q'] at h5; exact absurd h5 (by decide))
      | (simp at h5; omega)
  cases hwl with
  | cons w1 w2 =>
    cases w2
    cases w1 with
    | list ho hall => exact ⟨_, _, ns, rfl, rfl, ho, ints_of_wellAll ns _ hall, hlen⟩

theorem post_true (l : OpenLaw) (args : List WData) : l.row.toRowW.claim.post args (.bool true) args = true :=
  postW_of (r := l.row.toRowW) (X := (true == true))
    (show WShape.has [] (.bool true) .bool = true by first | rfl | decide | simp [WShape.has, WShape.arms, WShape.armsAll])
    (show (WTm.eq .res (.lit (.bool true))).value [] { args := args, res := some (.bool true), after := args } = some (.bool (true == true)) from w_eq_bool (w_res rfl) w_lit) rfl

/-! ### the attachment: holds_open's last premise (the goal 'hc' behind k_head) from a wpAny of the law's body -/

/-- the same from a codeAny of the CALL (for a layer whose function contracts speak of calls) -/
theorem attach_call {l : OpenLaw} {n : Nat} {q : Program} {loose : List Str} {XP : (Str → Option Value) → Heap → Prop} {YP : World → Heap → Prop} {d : DefRec}
    (hn : l.most = some n) (hdf : d.params.defaults = [])
    (call : ∀ (w : World) (s₀ s₁ : Shared) (mg mb : Str → Option Value) (fa : Addr) (o : Obj) (pm cd doc : Value) (a : Addr) (vs : List Value) (ns : List Int),
      Ground q loose [] XP w s₀ mg mb s₁.heap → YP w s₁.heap →
      s₁.heap.get? fa = some o → o.data = .func (docDef d.name d.params d.body d.scope pm cd doc) → s₁.heap.CodeRec cd d.name → mg d.name = some (.ref fa) →
      s₁.heap.get? a = some { cls := .type "list", data := .seq vs.toArray } → IntsAre vs ns → ns.length ≤ n → s₁.gens = #[] →
      codeAny (model l.prog w) callerA (.call (.ref fa) ⟨[.ref a], []⟩) (fun r s' => r = .ok (.ret (.bool true)) ∧ OldK s₁.heap s'.heap ∧ s'.os = s₁.os ∧ AllBare s'.gens) s₁) :
    WalkO q loose XP YP l.row.toRowW d [] (fun f vs => PySem.call f vs) := by
  intro w s₀ s₁ mg mb G Y fa o pm cd doc dV kV ho hd hcd hD hmg hg args vals as hpre hlay hrd hwl hlo
  obtain rfl : dV = .none := Dflts.none hD hdf
  obtain rfl : kV = .none := Dflts.noKw hD
  obtain ⟨a, vs, ns, rfl, rfl, hobj, hints, hlen⟩ := script_of hn hpre hwl
  refine enter_call (codeAny_mono (call w s₀ s₁ mg mb fa o pm cd doc a vs ns G Y ho (fd_plain hd) hcd hmg hobj hints hlen hg) fun r s' hq => ?_)
  obtain ⟨rfl, h2, h3, h4⟩ := hq
  exact ⟨.inl ⟨.bool true, .bool true, [], rfl, fun _ => rfl, .bool true, post_true l _, fun _ => ⟨List.Pairwise.nil, fun _ hm => (nomatch hm)⟩⟩, h2, h3, h4⟩


/-! ### rules over ANY heap (no ledger) from facts about the written part K: the library's own take a ledger (News) for what they write -/
section
variable {prog : Program} {w : World} {A : Around} {E : Value → Shared → Prop} {s : Shared} {K : Frag}





/-! the whole heap as the ledger: makes every rule that writes through a ledger a rule over any heap -/
def ledger (h : Heap) (L d : Addr) : List (Addr × Obj) := (List.range h.objs.size).filterMap fun a => if a = L ∨ a = d then none else (h.get? a).map fun o => (a, o)

end
end Att

namespace L2
open PySem PySem.Spec PyProof.Rows

theorem vals_ints : ∀ {vs : List Value} {ns : List Int}, IntsAre vs ns → Vals (ns.map V.int) vs
  | _, _, .nil => .nil
  | _, _, .cons n t h => .cons ⟨t, rfl⟩ (vals_ints h)

/-- nothing is tracked but the script, known to the object (or it is an object of the module) -/
def Only (H : Hp) : Prop := ∀ b, H b = none ∨ ∃ o xs, H b = some (.frz o (.lst xs))

/-- THE HEAD: the law's promise, at the heap behind the top. F, the promise of the law's def, may use that base is part of the heap (so K.In base, base.Ns mainGlobals mg stand in Mod) -/
theorem law_call {P : Program} {w : World} {K : PySem.W.Frag} {mg mb : Str → Option Value} {CX : CXT} {k : Nat} {fa a : Addr} {fd : FuncData} {x : Str} {sp : Sp} {s₁ : Shared} {vs : List Value} {ns : List Int}
    (KX : K.In s₁.heap) (hns : s₁.heap.Ns mainGlobals mg) (hb : s₁.heap.Ns builtinsNs mb) (hbb : ∀ x : Str, x ≠ "__name__" → mb x = bootBuiltins x) (hlim : s₁.heap.NoLimit) (hg : s₁.gens = #[])
    (ha : s₁.heap.get? a = some { cls := .type "list", data := .seq vs.toArray }) (hi : IntsAre vs ns) (hl : ns.length ≤ sizeLine) (hr : Room k callerA)
    (F : ∀ base : Heap, K.In base → base.Ns mainGlobals mg → FnOk P w K mg base CX k fa fd [x] sp) (hbind : ∀ (s : Shared) (u : Value), BindsTo s fd ⟨[u], []⟩ [(x, u)])
    (hsp : ∀ H : Hp, Only H → SqL K H a (ns.map V.int) → sp [.ref a] H (fun v _ => v = .bl true) fun _ _ _ => False)
    (hCX : ∀ H e s', CX [] H s₁ (fun _ _ _ => False) e s' → False) :
    codeAny (model P w) callerA (.call (.ref fa) ⟨[.ref a], []⟩) (fun r s' => r = .ok (.ret (.bool true)) ∧ OldK s₁.heap s'.heap ∧ s'.os = s₁.os ∧ AllBare s'.gens) s₁ := by
  have rv := vals_ints hi
  have lenV := hi.length
  -- from an abstract heap in which nothing but the script may be tracked
  have core : ∀ H : Hp, Only H → SqL K H a (ns.map V.int) → HOk P w H s₁.heap → (∀ b, H b ≠ none → b = a) → (H a ≠ none → K.lookup a = none) →
      codeAny (model P w) callerA (.call (.ref fa) ⟨[.ref a], []⟩) (fun r s' => r = .ok (.ret (.bool true)) ∧ OldK s₁.heap s'.heap ∧ s'.os = s₁.os ∧ AllBare s'.gens) s₁ := by
    intro H hO hS hok hA hK
    have base_of : ∀ {b : Addr} {o : Obj}, s₁.heap.get? b = some o → H b = none → (hidT s₁.heap H).get? b = some o := fun e n => hidT_get e n
    have noA : ∀ {b : Addr} {o : Obj} {es : Array DictEntry} {ep : Nat}, s₁.heap.get? b = some o → o.data = .dict es ep → H b = none := fun {b o es ep} e d => by
      cases q : H b with
      | none => rfl
      | some u =>
        have e' : b = a := hA b (by rw [q]; simp)
        subst e'
        rw [ha] at e; cases e
        have d' : Data.seq vs.toArray _ = Data.dict es ep := d
        cases d'
    have nsK : ∀ {b : Addr} {m : Str → Option Value}, s₁.heap.Ns b m → (hidT s₁.heap H).Ns b m := fun {b m} ⟨o, es, ep, e, d, r⟩ => ⟨o, es, ep, base_of e (noA e d), d, r⟩
    have hKb : K.In (hidT s₁.heap H) := fun b o e => base_of (KX b o e) (by
      cases q : H b with
      | none => rfl
      | some u =>
        have e' : b = a := hA b (by rw [q]; simp)
        subst e'
        rw [hK (by rw [q]; simp)] at e; cases e)
    have hM : Mod K mg (hidT s₁.heap H) := ⟨hKb, nsK hns, ⟨mb, nsK hb, hbb⟩, let ⟨mc, h1, h2⟩ := hlim; ⟨mc, nsK h1, h2⟩⟩
    have e0 : Env0 P w K mg (hidT s₁.heap H) callerA [] s₁ H := ⟨rfl, hM, fun b o e => of_hidT e, Nat.le_of_eq (hidT_size _ _), trivial, fun b hb => absurd (show b ∈ ([] : List Addr) from hb) (by simp), hok, .of_eq hg⟩
    refine codeAny_mono ((F _ hKb (nsK hns)).run callerA [] s₁ H ⟨[.ref a], []⟩ [.ref a] [.ref a] _ _ hr e0 (hbind s₁ (.ref a)) (.cons rfl .nil) (hsp H hO hS)) fun r s' h => ?_
    cases r with
    | error e => exact (hCX H e s' h).elim
    | ok fl =>
      cases fl with
      | next => exact False.elim h
      | brk => exact False.elim h
      | cont => exact False.elim h
      | ret u =>
        obtain ⟨v, H', os, bare, un, hok', r', q⟩ := h
        have q' : v = .bl true := q
        subst q'
        obtain rfl : u = Value.bool true := r'
        refine ⟨rfl, OldK.of_keep fun b o e => ?_, os, bare⟩
        cases q : H b with
        | none => exact un.keep b o e q (by intro z; exact absurd (show b ∈ ([] : List Addr) from z) (by simp)) (by simp)
        | some u =>
          rcases hO b with z | ⟨ob, xs, z⟩
          · rw [q] at z; cases z
          · have z2 := un.frzs b ob _ z
            obtain ⟨e1, _⟩ := hok b _ z
            obtain ⟨e2, _⟩ := hok' b _ z2
            rw [e] at e1; cases e1
            exact e2
  cases hk : K.lookup a with
  | some o =>
    -- the script is one of the module's own objects
    have e := KX a o hk
    rw [ha] at e
    cases e
    refine core (fun _ => none) (fun _ => .inl rfl) (.inr ⟨_, vs.toArray, _, hk, rfl, rfl, rfl, by rw [List.size_toArray, lenV]; exact hl, by simpa using rv⟩) (fun b u z => by have z' : (none : Option HO) = some u := z; cases z') (fun b z => absurd rfl z) fun z => absurd rfl z
  | none =>
    refine core (fun b => if b = a then some (.frz { cls := .type "list", data := .seq vs.toArray } (.lst (ns.map V.int))) else none) (fun b => ?_) (.inl (.inr ⟨{ cls := .type "list", data := .seq vs.toArray }, if_pos rfl⟩)) (fun b u z => ?_) (fun b z => ?_) fun _ => hk
    · by_cases hb : b = a
      · exact .inr ⟨_, _, if_pos hb⟩
      · exact .inl (if_neg hb)
    · by_cases hb : b = a
      · have z' := (if_pos hb).symm.trans z
        cases z'
        subst hb
        exact ⟨ha, by rw [List.length_map]; exact hl, vs, _, rv, ha⟩
      · have z' := (if_neg hb).symm.trans z
        cases z'
    · by_cases hb : b = a
      · exact hb
      · exact absurd (if_neg hb) z
end L2

namespace L2
open PySem PySem.Spec PyProof.Rows


/-- the goal that k_head leaves (case hc), from the law's promise. F gives the function object fd (K's own) once, then the promise over every base -/
theorem walk_of {l : PySem.W.OpenLaw} {n k : Nat} {q : Program} {loose : List Str} {XP : (Str → Option Value) → Heap → Prop} {YP : World → Heap → Prop} {d : DefRec} {K : Params → PySem.W.Frag} {CX : World → CXT} {sp : World → Sp} {x : Str}
    (hn : l.most = some n) (hn2 : n ≤ sizeLine) (hdf : d.params.defaults = []) (hr : Room k callerA)
    (hY : ∀ (w : World) (h : Heap), YP w h → (K w.params).In h)
    (F : ∀ (w : World) (mg : Str → Option Value) (fa : Addr) (h : Heap), (K w.params).In h → h.Ns mainGlobals mg → mg d.name = some (.ref fa) →
      ∃ fd : FuncData, (∀ (s : Shared) (u : Value), BindsTo s fd ⟨[u], []⟩ [(x, u)]) ∧
        ∀ base : Heap, (K w.params).In base → base.Ns mainGlobals mg → FnOk l.prog w (K w.params) mg base (CX w) k fa fd [x] (sp w))
    (hsp : ∀ (w : World) (H : Hp) (a : Addr) (ns : List Int), ns.length ≤ n → Only H → SqL (K w.params) H a (ns.map V.int) → sp w [.ref a] H (fun v _ => v = .bl true) fun _ _ _ => False)
    (hCX : ∀ (w : World) (H : Hp) (s : Shared) (e : Value) (s' : Shared), CX w [] H s (fun _ _ _ => False) e s' → False) :
    PySem.W.WalkO q loose XP YP l.row.toRowW d [] (fun f vs => PySem.call f vs) := by
  refine Att.attach_call hn hdf fun w s₀ s₁ mg mb fa o pm cd doc a vs ns G Y ho hd hcd hmg hobj hints hlen hg => ?_
  have KX := hY w _ Y
  obtain ⟨fd, hb, hF⟩ := F w mg fa _ KX G.T.g hmg
  exact law_call KX G.T.g G.T.b G.T.builtins G.T.nolimit hg hobj hints (Nat.le_trans hlen hn2) hr hF hb (fun H hO hS => hsp w H a ns hlen hO hS) fun H e s' => hCX w H s₁ e s'
end L2



/-! SHORT WORDS over the layer: a def of the text, its body, what a loop and a test want. -/
namespace L2
open PySem PySem.Spec PyProof.Rows

/-! ### the text by places -/
/-- the j-th statement of a class's body -/
def inClass (s : Stmt) (j : Nat) : Stmt := match s with
  | .ClassDef _ _ _ body _ _ _ _ _ _ _ => body.getD j (.Pass ⟨0, 0, 0, 0⟩)
  | _ => .Pass ⟨0, 0, 0, 0⟩
def defArgs (s : Stmt) : Arguments := match s with
  | .FunctionDef _ a _ _ _ _ _ _ _ _ => a
  | _ => { posonlyargs := [], args := [], vararg := none, kwonlyargs := [], kw_defaults := [], kwarg := none, defaults := [] }
def defBody (s : Stmt) : List Stmt := match s with
  | .FunctionDef _ _ b _ _ _ _ _ _ _ => b
  | _ => []
def defScope (s : Stmt) : Scope := match s with
  | .FunctionDef _ _ _ _ _ _ sc _ _ _ => sc
  | _ => { kind := .function, names := [], isGenerator := false, isCoroutine := false }

/-! ### no exception leaves a def -/
abbrev CX0 : CXT := fun _ _ _ _ _ _ => False
abbrev E0 : XK := fun _ _ _ => False
theorem pass0 {X : Cx} : Passes CX0 X E0 := fun _ _ _ _ _ _ _ h => h.elim

/-! ### a def (or method) of the text as it stands behind the top -/
structure Fun (K : PySem.W.Frag) (x qual : Str) (st : Stmt) (f : Addr) (fd : FuncData) : Prop where
  ex : ∃ (oc : Value) (od : Option Addr) (kV doc pm : Value) (an : Option Addr) (cdv ct : Value) (osl : Array (Option Value)),
    fd = PySem.W.fnOf x qual (defArgs st) (defBody st) (defScope st) .none kV doc pm an cdv ct ∧ K.lookup f = some ⟨oc, od, .func fd, osl⟩ ∧ PySem.W.codeIn K cdv qual = true
  kp : PySem.W.keepIn K (.ref f) = true
section
variable {P : Program} {w : World} {K : PySem.W.Frag} {mg : Str → Option Value} {base : Heap}
/-- THE RULE for a def: its body as a term of rules, and the reading of that term -/
theorem Fun.ok {x qual : Str} {st : Stmt} {f : Addr} {fd : FuncData} {N ps : List Str} {k : Nat} {sp : Sp} (F : Fun K x qual st f fd) (S : FnScope N ps (defScope st)) (len : ∀ vs H Q E, sp vs H Q E → vs.length = ps.length)
    (hbody : ∀ (cdv : Value) (A : Around) (outer : List Env) (s : Shared) (H : Hp) (vs : List V) (Q : VK) (E : XK), Room k (A.deeper (envOfC qual (defScope st) s.heap.objs.size f cdv)) → sp vs H Q E →
      ∃ t, PSs (cxOf CX0 P w K mg base N qual (defScope st) f cdv A outer s H E).nox (defBody st) t ∧ t { nx := fun _ H' => Q .non H', rt := Q } (start N vs) H) : FnOk P w K mg base CX0 (k + 1) f fd ps sp := by
  obtain ⟨oc, od, kV, doc, pm, an, cdv, ct, osl, rfl, lk, hcd⟩ := F.ex
  refine fn_of lk hcd S len fun A outer s H vs Q E hr hsp => ?_
  obtain ⟨t, h, q⟩ := hbody cdv A outer s H vs Q E hr hsp
  exact ⟨t, h.nox, q⟩
/-- how its arguments bind (no defaults): h is «fun _ _ _ _ _ _ us hl => match us, hl with | [_, _], _ => rfl», one _ a parameter -/
theorem Fun.binds {x qual : Str} {st : Stmt} {f : Addr} {fd : FuncData} {ps : List Str} (F : Fun K x qual st f fd)
    (h : ∀ (kV doc pm : Value) (an : Option Addr) (cdv ct : Value) (us : List Value), us.length = ps.length → bindArgs (PySem.W.fnOf x qual (defArgs st) (defBody st) (defScope st) .none kV doc pm an cdv ct) ⟨us, []⟩ = pure (ps.zip us)) : Binds K fd ps [] := by
  obtain ⟨oc, od, kV, doc, pm, an, cdv, ct, osl, rfl, lk, hcd⟩ := F.ex
  exact .all (h kV doc pm an cdv ct)
theorem fun_mk {x qual : Str} {st : Stmt} {f : Addr} {oc : Value} {od an : Option Addr} {osl : Array (Option Value)} {kV doc pm cdv ct : Value} (l : K.lookup f = some ⟨oc, od, .func (PySem.W.fnOf x qual (defArgs st) (defBody st) (defScope st) .none kV doc pm an cdv ct), osl⟩)
    (c : PySem.W.codeIn K cdv qual = true) (k : PySem.W.keepIn K (.ref f) = true) : Fun K x qual st f (PySem.W.fnOf x qual (defArgs st) (defBody st) (defScope st) .none kV doc pm an cdv ct) := ⟨⟨oc, od, kV, doc, pm, an, cdv, ct, osl, rfl, l, c⟩, k⟩
end
theorem hu_of {A : Around} {k : Nat} (hr : Room k A) : A.units + 1 < cLine := Nat.lt_of_le_of_lt (Nat.add_le_add_left (by decide : 1 ≤ 64) _) hr.units
theorem small1000 {n : Nat} (h : n ≤ 1000) : n < sizeLine := Nat.lt_of_le_of_lt h (by decide)

/-! ### expressions in short: the name that stands in the i-th slot -/
section
variable {X : Cx}
theorem pv (i : Nat) {x : Str} {pos : Pos} (hN : X.N[i]? = some x := by rfl) (hv : Vis X.env.scope x := by first | exact Or.inl rfl | exact Or.inr (Or.inl rfl) | exact Or.inr (Or.inr rfl)) (hd : (x == ("__debug__" : Str)) = false := by decide)
    (hcd : (x == ("__classdict__" : Str)) = false := by decide) : PE X (.Name x pos) (tVar i) := pe_var hN hv hd hcd
end

/-! ### tests -/

/-! ### heaps -/
/-- all that was tracked is as it was -/
def Same (H H' : Hp) : Prop := ∀ b o, H b = some o → H' b = some o
theorem Same.refl (H : Hp) : Same H H := fun _ _ h => h
theorem Same.trans {H H1 H2 : Hp} (a : Same H H1) (b : Same H1 H2) : Same H H2 := fun c o h => b c o (a c o h)
theorem Same.free {H H' : Hp} (e : Same H H') {l : Addr} (h : H' l = Option.none) : H l = Option.none := by
  cases q : H l with
  | none => rfl
  | some o =>
    rw [e l o q] at h
    cases h
theorem Same.seq {K : PySem.W.Frag} {H H' : Hp} {a : Addr} {xs : List V} (e : Same H H') (h : SqL K H a xs) : SqL K H' a xs := by
  rcases h with (h | ⟨o, h⟩) | h
  · exact .inl (.inl (e _ _ h))
  · exact .inl (.inr ⟨o, e _ _ h⟩)
  · exact .inr h

end L2

namespace L2
open PySem PySem.Spec PyProof.Rows

/-! ### lists of pairs as tables -/
section
variable {κ : Type} [DecidableEq κ]
def valV (kvs : List (κ × V)) (k : κ) : Option V := (kvs.find? fun kv => decide (kv.1 = k)).map (·.2)
/-- in its place, or at the end -/
def putK (kvs : List (κ × V)) (k : κ) (v : V) : List (κ × V) :=
  if (kvs.any fun kv => decide (kv.1 = k)) = true then kvs.map (fun kv => if kv.1 = k then (kv.1, v) else kv) else kvs ++ [(k, v)]
def dropK (kvs : List (κ × V)) (k : κ) : List (κ × V) := kvs.filter fun kv => decide (kv.1 ≠ k)

theorem valV_pos {p : κ × V} {r : List (κ × V)} {k : κ} (e : p.1 = k) : valV (p :: r) k = some p.2 := by simp [valV, List.find?_cons, e]
theorem valV_neg {p : κ × V} {r : List (κ × V)} {k : κ} (e : ¬ p.1 = k) : valV (p :: r) k = valV r k := by simp [valV, List.find?_cons, e]
theorem valV_any (k : κ) : ∀ kvs : List (κ × V), (kvs.any fun kv => decide (kv.1 = k)) = (valV kvs k).isSome
  | [] => rfl
  | p :: r => by
    rw [List.any_cons]
    by_cases e : p.1 = k
    · simp only [valV_pos e, decide_eq_true e, Bool.true_or, Option.isSome_some]
    · rw [valV_neg e, decide_eq_false e, Bool.false_or]; exact valV_any k r
theorem length_putK (kvs : List (κ × V)) (k : κ) (v : V) : (putK kvs k v).length ≤ kvs.length + 1 := by
  unfold putK
  split
  · rw [List.length_map]; omega
  · rw [List.length_append, List.length_cons, List.length_nil]; omega

theorem RelO.isSome_eq {o : Option V} {u : Option Value} (r : RelO o u) : o.isSome = u.isSome := by
  cases o with
  | none => cases u with
    | none => rfl
    | some _ => exact (show False from r).elim
  | some _ => cases u with
    | none => exact (show False from r).elim
    | some _ => rfl
theorem RelO.getD {o : Option V} {u : Option Value} {d : V} {d' : Value} (r : RelO o u) (rd : RelV d d') : RelV (o.getD d) (u.getD d') := by
  cases o with
  | none => cases u with
    | none => exact rd
    | some _ => exact (show False from r).elim
  | some _ => cases u with
    | none => exact (show False from r).elim
    | some _ => exact r

/-- raw tables of the same keys -/
theorem KV.val {kvs : List (κ × V)} {vs : List (κ × Value)} (r : KV kvs vs) (k : κ) : RelO (valV kvs k) (valueAt vs k) := by
  unfold KV at r
  induction r with
  | nil => exact True.intro
  | @cons p q ps qs h t ih =>
    obtain ⟨h1, h2⟩ := h
    by_cases e : p.1 = k
    · have e' : q.1 = k := h1.symm.trans e
      have b : valueAt (q :: qs) k = some q.2 := by simp [valueAt, List.find?_cons, e']
      rw [valV_pos e, b]; exact h2
    · have e' : ¬ q.1 = k := fun z => e (h1.trans z)
      have b : valueAt (q :: qs) k = valueAt qs k := by simp [valueAt, List.find?_cons, e']
      rw [valV_neg e, b]; exact ih
theorem KV.any {kvs : List (κ × V)} {vs : List (κ × Value)} (r : KV kvs vs) (k : κ) : (kvs.any fun kv => decide (kv.1 = k)) = vs.any fun kv => decide (kv.1 = k) := by
  unfold KV at r
  induction r with
  | nil => rfl
  | cons h t ih => rw [List.any_cons, List.any_cons, ih, h.1]
theorem KV.repl {kvs : List (κ × V)} {vs : List (κ × Value)} (r : KV kvs vs) (k : κ) {y : V} {u : Value} (ry : RelV y u) :
    KV (kvs.map fun kv => if kv.1 = k then (kv.1, y) else kv) (vs.map fun kv => if kv.1 = k then (kv.1, u) else kv) := by
  unfold KV at r ⊢
  induction r with
  | nil => exact .nil
  | @cons p q ps qs h t ih =>
    rw [List.map_cons, List.map_cons]
    refine .cons ?_ ih
    obtain ⟨h1, h2⟩ := h
    by_cases e : p.1 = k
    · rw [if_pos e, if_pos (h1.symm.trans e)]; exact ⟨h1, ry⟩
    · rw [if_neg e, if_neg (fun z => e (h1.trans z))]; exact ⟨h1, h2⟩
theorem KV.put {kvs : List (κ × V)} {vs : List (κ × Value)} (r : KV kvs vs) (k : κ) {y : V} {u : Value} (ry : RelV y u) : KV (putK kvs k y) (stored vs k u) := by
  unfold putK stored
  rw [r.any k]
  by_cases e : (vs.any fun kv => decide (kv.1 = k)) = true
  · rw [if_pos e, if_pos e]; exact r.repl k ry
  · rw [if_neg e, if_neg e]; exact Paired.snoc r ⟨rfl, ry⟩
theorem KV.drop {kvs : List (κ × V)} {vs : List (κ × Value)} (r : KV kvs vs) (k : κ) : KV (dropK kvs k) (without vs k) := by
  unfold KV at r ⊢
  unfold dropK without
  induction r with
  | nil => exact .nil
  | @cons p q ps qs h t ih =>
    obtain ⟨h1, h2⟩ := h
    rw [List.filter_cons, List.filter_cons]
    by_cases e : p.1 = k
    · have a : ¬ decide (p.1 ≠ k) = true := by simp [e]
      have b : ¬ decide (q.1 ≠ k) = true := by simp [h1.symm.trans e]
      rw [if_neg a, if_neg b]; exact ih
    · have e' : ¬ q.1 = k := fun z => e (h1.trans z)
      have a : decide (p.1 ≠ k) = true := by simp [e]
      have b : decide (q.1 ≠ k) = true := by simp [e']
      rw [if_pos a, if_pos b]; exact .cons ⟨h1, h2⟩ ih
theorem KV.keys {kvs : List (κ × V)} {vs : List (κ × Value)} (r : KV kvs vs) : kvs.map (·.1) = vs.map (·.1) := by
  unfold KV at r
  induction r with
  | nil => rfl
  | cons h t ih => rw [List.map_cons, List.map_cons, ih, h.1]
theorem KV.length {kvs : List (κ × V)} {vs : List (κ × Value)} (r : KV kvs vs) : kvs.length = vs.length := Paired.length r
end


/-! ### a tracked dict, its keys ints and texts or tuples of these -/
theorem kV_is {P : Program} {w : World} {k : Key} {u : Value} (r : RelV (kV k) u) : (mixKind P w).is k u = true := by
  cases k with
  | inl i => obtain ⟨t, e⟩ := (show ∃ t, u = Value.int i t from r); subst e; exact mixKind_int P w i t
  | inr x => obtain ⟨t, e⟩ := (show ∃ t, u = Value.str x t from r); subst e; exact mixKind_str P w x t
theorem items_are {P : Program} {w : World} : ∀ {ks : List Key} {us : List Value}, Vals (ks.map kV) us → ItemsAre (mixKind P w) ks us
  | [], _, r => by rw [List.map_nil] at r; cases r; exact .nil
  | k :: ks, _, r => by
    rw [List.map_cons] at r
    cases r with
    | cons h t => exact .cons (kV_is h) (items_are t)

/-- raw entries of a dict with tuple keys -/
abbrev KT (H : Hp) : List (List Key × V) → List (List Key × Addr × Value) → Prop := Paired fun p q => p.1 = q.1 ∧ H q.2.1 = some (.tup (p.1.map kV)) ∧ RelV p.2 q.2.2
theorem KT.val {H : Hp} {kvs : List (List Key × V)} {xs : List (List Key × Addr × Value)} (r : KT H kvs xs) (k : List Key) : RelO (valV kvs k) ((atKey xs k).map (·.2)) := by
  induction r with
  | nil => exact True.intro
  | @cons p q ps qs h t ih =>
    obtain ⟨h1, _, h2⟩ := h
    by_cases e : p.1 = k
    · have e' : q.1 = k := h1.symm.trans e
      have b : atKey (q :: qs) k = some q.2 := by simp [atKey, List.find?_cons, e']
      rw [valV_pos e, b]; exact h2
    · have e' : ¬ q.1 = k := fun z => e (h1.trans z)
      have b : atKey (q :: qs) k = atKey qs k := by simp [atKey, List.find?_cons, e']
      rw [valV_neg e, b]; exact ih
theorem KT.repl {H : Hp} {kvs : List (List Key × V)} {xs : List (List Key × Addr × Value)} (r : KT H kvs xs) (k : List Key) {y : V} {u : Value} (ry : RelV y u) :
    KT H (kvs.map fun kv => if kv.1 = k then (kv.1, y) else kv) (xs.map (putAt k u)) := by
  induction r with
  | nil => exact .nil
  | @cons p q ps qs h t ih =>
    rw [List.map_cons, List.map_cons]
    refine .cons ?_ ih
    obtain ⟨h1, h2, h3⟩ := h
    unfold putAt
    by_cases e : p.1 = k
    · rw [if_pos e, if_pos (h1.symm.trans e)]; exact ⟨h1, h2, ry⟩
    · rw [if_neg e, if_neg (fun z => e (h1.trans z))]; exact ⟨h1, h2, h3⟩
theorem KT.put {H : Hp} {kvs : List (List Key × V)} {xs : List (List Key × Addr × Value)} (r : KT H kvs xs) (k : List Key) {b : Addr} {y : V} {u : Value} (hb : H b = some (.tup (k.map kV))) (ry : RelV y u) :
    KT H (putK kvs k y) (storedH xs k b u) := by
  have e : (kvs.any fun kv => decide (kv.1 = k)) = (atKey xs k).isSome := by
    rw [valV_any, (r.val k).isSome_eq, Option.isSome_map]
  unfold putK storedH
  rw [e]
  by_cases q : (atKey xs k).isSome = true
  · rw [if_pos q, if_pos q]; exact r.repl k ry
  · rw [if_neg q, if_neg q]; exact Paired.snoc r ⟨rfl, hb, ry⟩
theorem KT.keeps {H H' : Hp} {kvs : List (List Key × V)} {xs : List (List Key × Addr × Value)} (r : KT H kvs xs) (ht : ∀ b ys, H b = some (.tup ys) → H' b = some (.tup ys)) : KT H' kvs xs :=
  Paired.mapP r fun _ _ z => ⟨z.1, ht _ _ z.2.1, z.2.2⟩

section
variable {P : Program} {w : World} {H : Hp} {h : Heap} {a : Addr}
theorem rd_of {u : HO} (ok : HOk P w H h) (e : Rd H a u) : ObjOk P w H h a u := e.ok ok
theorem dk_rd {kvs : List (Key × V)} (ok : HOk P w H h) (e : Rd H a (.dK kvs)) : kvs.length ≤ sizeLine ∧ (a == sysModules) = false ∧ ∃ vs, KV kvs vs ∧ h.DictOf (mixKind P w) a vs :=
  show ObjOk P w H h a (.dK kvs) from rd_of ok e
theorem dk_of {kvs : List (Key × V)} (ok : HOk P w H h) (e : H a = some (.dK kvs)) : kvs.length ≤ sizeLine ∧ (a == sysModules) = false ∧ ∃ vs, KV kvs vs ∧ h.DictOf (mixKind P w) a vs := dk_rd ok (.inl e)
/-- a tracked tuple of ints and texts is a key -/
theorem key_of {ks : List Key} (ok : HOk P w H h) (e : H a = some (.tup (ks.map kV))) : (tupleKind (mixKind P w)).is h ks a := by
  obtain ⟨_, its, r, o, h1, h2, n, h3⟩ := (show ObjOk P w H h a (.tup (ks.map kV)) from ok a _ e)
  exact ⟨o, its.toArray, n, h1, h2, h3, by simpa using items_are r⟩
theorem dt_rd {kvs : List (List Key × V)} (ok : HOk P w H h) (e : Rd H a (.dT kvs)) : kvs.length ≤ sizeLine ∧ (a == sysModules) = false ∧
    ∃ xs, KT H kvs xs ∧ h.DictOfH (tupleKind (mixKind P w)) a xs := by
  obtain ⟨z, y, xs, r, o, es, ep, h1, h2, h3, h4, h5⟩ := (show ObjOk P w H h a (.dT kvs) from rd_of ok e)
  refine ⟨z, y, xs, r, o, es, ep, h1, h2, h3, h4, fun x hx => ?_, h5⟩
  have all : ∀ {l : List (List Key × V)} {m : List (List Key × Addr × Value)}, KT H l m → ∀ x ∈ m, (tupleKind (mixKind P w)).is h x.1 x.2.1 := by
    intro l m q
    induction q with
    | nil => intro x hx; exact nomatch hx
    | @cons p q ps qs hq t ih =>
      intro x hx
      rcases List.mem_cons.mp hx with e | hx
      · subst e
        exact key_of ok (by rw [← hq.1]; exact hq.2.1)
      · exact ih x hx
  exact all r x hx
theorem dt_of {kvs : List (List Key × V)} (ok : HOk P w H h) (e : H a = some (.dT kvs)) : kvs.length ≤ sizeLine ∧ (a == sysModules) = false ∧
    ∃ xs, KT H kvs xs ∧ h.DictOfH (tupleKind (mixKind P w)) a xs := dt_rd ok (.inl e)
end

/-- what the dict at a holds at the key y -/
def DGet (H : Hp) (a : Addr) (y : V) (r : Option V) : Prop :=
  (∃ kvs k, Rd H a (.dK kvs) ∧ y = kV k ∧ r = valV kvs k) ∨ ∃ kvs k b, Rd H a (.dT kvs) ∧ y = .ref b ∧ H b = some (.tup (k.map kV)) ∧ r = valV kvs k
/-- the heap behind a[y] = v -/
def DPut (H : Hp) (a : Addr) (y v : V) (H' : Hp) : Prop :=
  (∃ kvs k, H a = some (.dK kvs) ∧ y = kV k ∧ kvs.length < sizeLine ∧ H' = upd H a (.dK (putK kvs k v))) ∨
  ∃ kvs k b, H a = some (.dT kvs) ∧ y = .ref b ∧ H b = some (.tup (k.map kV)) ∧ kvs.length < sizeLine ∧ H' = upd H a (.dT (putK kvs k v))
theorem DGet.k {H : Hp} {a : Addr} {kvs : List (Key × V)} {k : Key} (e : H a = some (.dK kvs)) : DGet H a (kV k) (valV kvs k) := .inl ⟨kvs, k, .inl e, rfl, rfl⟩
theorem DGet.t {H : Hp} {a b : Addr} {kvs : List (List Key × V)} {k : List Key} (e : H a = some (.dT kvs)) (eb : H b = some (.tup (k.map kV))) : DGet H a (.ref b) (valV kvs k) := .inr ⟨kvs, k, b, .inl e, rfl, eb, rfl⟩
theorem DPut.k {H : Hp} {a : Addr} {kvs : List (Key × V)} {k : Key} {v : V} (e : H a = some (.dK kvs)) (hl : kvs.length < sizeLine) : DPut H a (kV k) v (upd H a (.dK (putK kvs k v))) := .inl ⟨kvs, k, e, rfl, hl, rfl⟩
theorem DPut.t {H : Hp} {a b : Addr} {kvs : List (List Key × V)} {k : List Key} {v : V} (e : H a = some (.dT kvs)) (eb : H b = some (.tup (k.map kV))) (hl : kvs.length < sizeLine) :
    DPut H a (.ref b) v (upd H a (.dT (putK kvs k v))) := .inr ⟨kvs, k, b, e, rfl, eb, hl, rfl⟩


section
variable {X : Cx} {pins : List (Addr × Obj)} {σ : St} {H : Hp} {s : Shared} {a : Addr} {y v : V} {u r : Value} {o : Option V} {A : Around} {E : Value → Shared → Prop}

theorem Inv.big (I : Inv X pins σ H s) : sysModules < s.heap.objs.size := by
  have h : mainGlobals < s.heap.objs.size := (I.mod.glob.keeps I.bk).lt
  exact Nat.lt_trans (by decide) h

/-- a dict's object is replaced -/
theorem d_write {h' : Heap} {t' : Nat} {ob : HO} (I : Inv X pins σ H s) (mu : Mut (H a)) (hs : Heap.SameBut a s.heap h') (he : ∃ q, h'.get? a = some q) (new : ObjOk X.prog X.w (upd H a ob) h' a ob) :
    Inv X pins σ (upd H a ob) { s with heap := h', toks := t' } :=
  I.write (x := a) (e := a) mu (.inl rfl) (fun b q hb z => (hs.2 b hb).trans z) he new
theorem dk_new {P : Program} {w : World} {H' : Hp} {h' : Heap} {kvs : List (Key × V)} {vs : List (Key × Value)} (z : kvs.length ≤ sizeLine) (hd : (a == sysModules) = false) (rel : KV kvs vs) (dd : h'.DictOf (mixKind P w) a vs) :
    ObjOk P w H' h' a (.dK kvs) := ⟨z, hd, vs, rel, dd⟩
/-- d[y] = v -/
theorem d_setItem {H' : Hp} {Q : Unit → Shared → Prop} (hu : A.units + 1 < cLine) (I : Inv X pins σ H s) (g : DPut H a y v H') (ry : RelV y u) (rv : RelV v r) (h : ∀ s', Inv X pins σ H' s' → Q () s') :
    wpAny (model X.prog X.w) A (setItem (.ref a) u r) Q E s := by
  rcases g with ⟨kvs, k, e, ey, l, eH⟩ | ⟨kvs, k, b, e, ey, eb, l, eH⟩
  · subst ey eH
    obtain ⟨z, hd, vs, rel, dd⟩ := dk_of I.hok e
    have hz : vs.length ≤ sizeLine := by rw [← rel.length]; exact z
    have hl : (putK kvs k v).length ≤ sizeLine := by have := length_putK kvs k v; omega
    refine wpAny_setItem_pairs (hsz := hz) (kV_is ry) dd fun h' dd' hs => h _ ?_
    have he : ∃ q, h'.get? a = some q := let ⟨q, _, _, hq, _⟩ := dd'; ⟨q, hq⟩
    exact d_write I (by rw [e]; exact True.intro) hs he (dk_new hl hd (rel.put k rv) dd')
  · subst ey eH
    cases (show u = Value.ref b from ry)
    obtain ⟨z, hd, xs, rel, dd⟩ := dt_of I.hok e
    have hz : xs.length ≤ sizeLine := by rw [← Paired.length rel]; exact z
    have hl : (putK kvs k v).length ≤ sizeLine := by have := length_putK kvs k v; omega
    refine wpAny_setItem_heap (hsz := hz) (tupleKind_room_in1 hu) (key_of I.hok eb) dd fun h' dd' hs => h _ ?_
    obtain ⟨q, es, ep, hq, h2, h3, h4, _, h5⟩ := dd'
    refine d_write I (by rw [e]; exact True.intro) hs ⟨q, hq⟩ ⟨hl, hd, _, (rel.put k eb rv).keeps fun c ys ec => ?_, q, es, ep, hq, h2, h3, h4, h5⟩
    rw [upd_ne (ne_of ec e (fun z => nomatch z))]
    exact ec
end

section
variable {X : Cx} {pins : List (Addr × Obj)} {σ : St} {H : Hp} {s : Shared} {a : Addr} {kvs : List (Key × V)} {k : Key} {u : Value} {A : Around} {E : Value → Shared → Prop}
end


/-! ### readings and rules -/



section
variable {X : Cx} {o i e value : Expr} {pos pos' tpos : Pos} {td ty tv : TE}
end


/-! ### displays -/
section
variable {X : Cx} {pos : Pos}
end




/-! ### methods -/
/-- a method call o.m(e) of a built-in, with one argument: what must be seen of the text -/
structure M1 (X : Cx) (o : Expr) (m : Str) (apos : Pos) (e : Expr) (cpos : Pos) : Prop where
  base : attributeBase o m X.env (eval o X.env) = eval o X.env
  few : ((backTo cpos (starEach [e] X.env)).all (fun x => !x.1) && (backToKw cpos (keywordEach [] X.env)).all (fun x => x.1.isSome)
    && decide (([e] : List Expr).length + ([] : List Keyword).length + (if ([] : List Keyword).isEmpty then 0 else 1) < 30)) = true
  line : (apos.endLine == cpos.line) = true
  trees : backTo cpos (starEach [e] X.env) = [(false, eval e X.env)]
structure M2 (X : Cx) (o : Expr) (m : Str) (apos : Pos) (e f : Expr) (cpos : Pos) : Prop where
  base : attributeBase o m X.env (eval o X.env) = eval o X.env
  few : ((backTo cpos (starEach [e, f] X.env)).all (fun x => !x.1) && (backToKw cpos (keywordEach [] X.env)).all (fun x => x.1.isSome)
    && decide (([e, f] : List Expr).length + ([] : List Keyword).length + (if ([] : List Keyword).isEmpty then 0 else 1) < 30)) = true
  line : (apos.endLine == cpos.line) = true
  trees : backTo cpos (starEach [e, f] X.env) = [(false, eval e X.env), (false, eval f X.env)]


section
variable {X : Cx} {pins : List (Addr × Obj)} {σ : St} {H : Hp} {s : Shared} {a : Addr} {y d : V} {u r : Value} {o : Option V} {A : Around} {E : Value → Shared → Prop}
end

section
variable {X : Cx} {o e f : Expr} {apos cpos : Pos} {td ty tx : TE}
end

/-! ### dict(d): a copy -/
section
variable {X : Cx} {pins : List (Addr × Obj)} {σ : St} {H : Hp} {s : Shared} {a : Addr} {kvs : List (Key × V)} {A : Around} {E : Value → Shared → Prop}
end


section
variable {X : Cx} {pins : List (Addr × Obj)} {σ : St} {H : Hp} {s : Shared} {a : Addr} {y : V} {u : Value} {A : Around} {E : Value → Shared → Prop}
end
end L2

set_option maxHeartbeats 4000000
namespace L2
open PySem PySem.Spec PyProof.Rows
/-! ### texts by their codes -/
def st (l : List Nat) : Str := ⟨l.toArray⟩
theorem st_list (l : List Nat) : (st l).cps.toList = l := by simp [st]
theorem st_len (l : List Nat) : (st l).length = l.length := by simp [st, Str.length]
theorem st_of (x : Str) : x = st x.cps.toList := by cases x; simp [st]
theorem st_inj {a b : List Nat} (h : st a = st b) : a = b := by
  have e := congrArg (fun x : Str => x.cps.toList) h
  simpa [st] using e
theorem st_app (a b : List Nat) : st a ++ st b = st (a ++ b) := by
  show Str.append (st a) (st b) = st (a ++ b)
  unfold Str.append st
  simp
theorem in_one (l : List Nat) (c : Nat) : (!(Builtin.Str.occurrences (st l) (st [c]) 0 (st l).length 1).isEmpty) = decide (c ∈ l) := by
  have e := StrLaws.found_one (st l) c
  rw [st_list] at e
  exact e
theorem slice_to (l : List Nat) (n : Nat) : Txt.slice (st l) none (some (n : Int)) = st (l.take n) := by
  by_cases h : n ≤ l.length
  · have q : Txt.slice (st l) none (some (n : Int)) = ⟨(((st l).cps.toList.drop 0).take ((n : Int) - 0).toNat).toArray⟩ := StrLaws.sliceText_to ⟨by omega, by rw [st_list]; omega⟩
    rw [q, st_list]
    simp [st]
  · have e : Txt.slice (st l) none (some (n : Int)) = Txt.slice (st l) none (some (l.length : Int)) := by
      unfold Txt.slice
      have z : Builtin.Str.strSliceIndices none (some (n : Int)) 1 (st l).length = Builtin.Str.strSliceIndices none (some (l.length : Int)) 1 (st l).length := by
        rw [st_len]
        have h0 : ¬ (n : Int) < 0 := by omega
        have h1 : ¬ ((l.length : Int) < 0) := by omega
        have h2 : (1 : Int) > 0 := by decide
        have h3 : min (n : Int) (l.length : Int) = (l.length : Int) := by omega
        simp only [Builtin.Str.strSliceIndices, h0, h1, h2, if_false, if_true, h3, Int.min_self]
      rw [z]
    have q : Txt.slice (st l) none (some (l.length : Int)) = ⟨(((st l).cps.toList.drop 0).take ((l.length : Int) - 0).toNat).toArray⟩ := StrLaws.sliceText_to ⟨by omega, by rw [st_list]; omega⟩
    rw [e, q, st_list, List.take_of_length_le (by omega : l.length ≤ n)]
    simp [st]
theorem slice_from (l : List Nat) (n : Nat) : Txt.slice (st l) (some (n : Int)) none = st (l.drop n) := by
  by_cases h : n ≤ l.length
  · have q : Txt.slice (st l) (some (n : Int)) none = ⟨(((st l).cps.toList.drop (n : Int).toNat).take (((st l).cps.toList.length : Int) - (n : Int)).toNat).toArray⟩ := StrLaws.sliceText_from ⟨by omega, by rw [st_list]; omega⟩
    rw [q, st_list]
    have e1 : (n : Int).toNat = n := by omega
    have e2 : ((l.length : Int) - (n : Int)).toNat = l.length - n := by omega
    rw [e1, e2, List.take_of_length_le (by rw [List.length_drop]; omega)]
    rfl
  · rw [slice_beyond (by rw [st_len]; omega), List.drop_eq_nil_of_le (by omega)]
    rfl
theorem rstrip_to {ds ls : List Nat} {y : List Nat} (h1 : ∀ c ∈ ls, c ∈ y) (h2 : ∀ c ∈ ds, c ∉ y) (hw : ∀ (p : Nat → Bool), (∀ c ∈ ls, p c = true) → (∀ c ∈ ds, p c = false) → (((ds ++ ls).reverse).takeWhile p).length = ls.length) :
    Txt.rstripChars (st (ds ++ ls)) (st y) = st ds := by
  have hc : ∀ c, (st y).cps.contains c = decide (c ∈ y) := fun c => by
    simp [st]
  have e := hw (st y).cps.contains (fun c h => by rw [hc]; exact decide_eq_true (h1 c h)) (fun c h => by rw [hc]; exact decide_eq_false (h2 c h))
  have hh : stripHi (st y).cps.contains true (st (ds ++ ls)) (stripLo (st y).cps.contains false (st (ds ++ ls))) = ds.length := by
    unfold stripHi stripLo
    rw [if_pos rfl, if_neg (by decide), st_list, List.drop_zero, e, st_len, List.length_append]
    omega
  unfold Txt.rstripChars Txt.stripBy
  split
  · rename_i hs
    unfold stripSame at hs
    rw [hh, st_len, List.length_append] at hs
    simp only [Bool.and_eq_true, beq_iff_eq] at hs
    have : ls = [] := List.eq_nil_of_length_eq_zero (by omega)
    subst this
    rw [List.append_nil]
  · unfold stripped
    rw [hh, strSub_mk]
    unfold stripLo
    rw [if_neg (by decide), st_list, List.drop_zero, Nat.sub_zero, List.take_left' rfl]
    rfl

section
variable {X : Cx}
/-- a slice of a text -/
def rSlS : V → Option Int → Option Int → Hp → VK → Prop := fun x lo hi H Q => ∃ z, x = .str z ∧ z.length ≤ sizeLine ∧ Q (.str (Txt.slice z lo hi)) H
theorem sl_str : SlR X rSlS := by
  intro pins s σ H x v vl vu lo hi sl Q I rx hs pl pu h
  obtain ⟨z, rfl, hz, q⟩ := h
  obtain ⟨t, rfl⟩ := rx
  refine ⟨"str", _, PySem.F.slot_str_getitem.lookup, typeIs_str _ _ _, ?_⟩
  have fin : ∀ t' k, EP X pins σ Q (.str (Txt.slice z lo hi) t') { s with toks := k } := fun t' k => ⟨.str (Txt.slice z lo hi), H, I.tok _, ⟨_, rfl⟩, q⟩
  cases pl with
  | none =>
    cases pu with
    | none => exact wpAny_getItem_str_slice (l := none) (u := none) (st := none) hs rfl (post_val_or_str ⟨Nat.le_trans (Txt.slice_le z _ _) hz, fin⟩)
    | int j u => exact wpAny_getItem_str_slice (l := none) (u := some (j, u)) (st := none) hs rfl (post_val_or_str ⟨Nat.le_trans (Txt.slice_le z _ _) hz, fin⟩)
  | int i u' =>
    cases pu with
    | none => exact wpAny_getItem_str_slice (l := some (i, u')) (u := none) (st := none) hs rfl (post_val_or_str ⟨Nat.le_trans (Txt.slice_le z _ _) hz, fin⟩)
    | int j u => exact wpAny_getItem_str_slice (l := some (i, u')) (u := some (j, u)) (st := none) hs rfl (post_val_or_str ⟨Nat.le_trans (Txt.slice_le z _ _) hz, fin⟩)
end

/-! ### t < u of tuples whose items are ints and texts, kind by kind -/
def cmpV : V → V → Bool
  | .int _, .int _ => true
  | .str _, .str _ => true
  | _, _ => false
def cmpVs : List V → List V → Prop
  | x :: xs, y :: ys => cmpV x y = true ∧ cmpVs xs ys
  | _, _ => True
end L2

namespace HT
open PySem PyProof.Rows L2
section
open PySem.SeqAt
open PySem.AutoSeq1 (wpAny_loadPart')
open PySem.MeetsSeq PySem.MeetsSeq2 PySem.MeetsSeq3
end
section
variable {prog : Program} {w : World} {A : Around} {E : Value → Shared → Prop} {s : Shared}
end
end HT

namespace L2
open PySem PySem.Spec PyProof.Rows
section
variable {X : Cx}
end
end L2

namespace L2
open PySem PySem.Spec PyProof.Rows
/-! ### for c in text -/
def Its (l : List Nat) : It := ⟨fun i _ => i < l.length, fun i H x H' => H' = H ∧ ∃ c, l[i]? = some c ∧ x = .str (st [c]), fun i _ => i = l.length⟩
theorem walk_str {P : Program} {w : World} {A : Around} {cls : String} (hA : A.handled = none) (it : Addr) (x : Str) (t : Tok) (hcls : cls = "str_ascii_iterator" ∨ cls = "str_iterator") : Walks P w A it [it] [it] x.cps.size (SignAt x) (fun i h => h.IsStrIter it cls x t i) := by
  rcases hcls with rfl | rfl
  · exact Walks.strAscii hA it x t
  · exact Walks.strWide hA it x t
theorem turn_str {P : Program} {w : World} {K : PySem.W.Frag} {tg : Expr} {cls : String} (x : Str) (t : Tok) (it : Addr) (hcls : cls = "str_ascii_iterator" ∨ cls = "str_iterator") : Turn P w K tg (Its x.cps.toList) [it] it (fun i h => h.IsStrIter it cls x t i) where
  mem := by simp
  obj := fun i h stt b hb => by
    have e : b = it := by simpa using hb
    subst e
    obtain ⟨o, e, c, d⟩ := stt
    exact ⟨o, e, fun v z => by rw [d] at z; cases z⟩
  keep := fun i h h' stt k => by
    obtain ⟨o, e, r⟩ := stt
    exact ⟨o, k it (by simp) o e, r⟩
  item := by
    intro X hP hw hK hc i pins s σ H E I hf stt hg
    subst hP hw hK
    obtain ⟨f0, f1, f2, f3, f4, f5⟩ := hf it (by simp)
    have hg' : i < x.cps.toList.length := hg
    refine (walk_str (I.ok.hd hc) it x t hcls).item i s _ _ (by simpa using hg') stt fun v h' tk hv st' kk => ?_
    obtain ⟨c, u, hc', rfl⟩ := hv
    have I1 : Inv X pins σ H { s with heap := h', toks := tk } := I.turned (fun b o hb e => kk b o (by simpa using hb) e) f0 f1 f3 f4 f5
    obtain ⟨o, e, hcl, d⟩ := id st'
    exact ⟨_, rfl, go_of (s := { s with heap := h', toks := tk }) e hcl d (by rcases hcls with rfl | rfl <;> decide) ⟨.str (st [c]), H, I1, ⟨u, rfl⟩, ⟨rfl, c, by simpa using hc', rfl⟩, st', fun b hb => (hf b hb).1⟩⟩
  done := by
    intro X hP hw hK hc i pins s σ H E I hf stt hg
    subst hP hw hK
    obtain ⟨f0, f1, f2, f3, f4, f5⟩ := hf it (by simp)
    have hg' : i = x.cps.toList.length := hg
    subst hg'
    refine (walk_str (I.ok.hd hc) it x t hcls).done s _ _ (by simpa using stt) fun h' tk kk => ?_
    exact ⟨rfl, I.turned (fun b o hb e => kk b o (by simpa using hb) e) f0 f1 f3 f4 f5⟩
  self := fun A i s Q E stt h => by
    rcases hcls with rfl | rfl
    · exact wpAny_pyIter_striter_ascii stt h
    · exact wpAny_pyIter_striter_wide stt h
section
variable {X : Cx} {tg : Expr}
end
/-! ### [elt for target in iter if test] -/
def clOf (cells : List (Str × Addr)) : List (Str × NameKind) → List (Str × Addr) → List (Str × Addr)
  | [], acc => acc
  | (n, k) :: r, acc => if k == .free then clOf cells r ((n, (cells.lookup n).getD 0) :: acc) else clOf cells r acc
theorem closure_go {env : Env} : ∀ (l : List (Str × NameKind)) (acc : List (Str × Addr)), (∀ y ∈ l, y.2 = .free → ∃ c, env.cells.lookup y.1 = some c) →
    (forIn (m := Sem) l acc fun x r => if (x.2 == NameKind.free) = true then do let a ← cellOf env x.1; pure (ForInStep.yield ((x.1, a) :: r)) else pure (ForInStep.yield r)) = pure (clOf env.cells l acc)
  | [], acc, _ => rfl
  | (n, k) :: r, acc, h => by
    rw [List.forIn_cons]
    have ih := fun acc' => closure_go r acc' fun y hy => h y (List.mem_cons_of_mem _ hy)
    by_cases hk : k = .free
    · subst hk
      obtain ⟨c, hc⟩ := h (n, .free) (List.mem_cons_self ..) rfl
      have e : cellOf env n = pure c := by
        unfold cellOf
        rw [show env.cells.lookup n = some c from hc]
      show ((if ((NameKind.free : NameKind) == NameKind.free) = true then _ else _) >>= _) = _
      rw [if_pos (by decide), e]
      unfold clOf
      rw [if_pos (by decide), show env.cells.lookup n = some c from hc]
      exact ih _
    · have hb : (k == NameKind.free) = false := by simpa using hk
      show ((if (k == NameKind.free) = true then _ else _) >>= _) = _
      rw [if_neg (by rw [hb]; decide)]
      unfold clOf
      rw [if_neg (by rw [hb]; decide)]
      exact ih _
theorem closure_is {scope : Scope} {env : Env} (h : ∀ y ∈ scope.names, y.2 = .free → ∃ c, env.cells.lookup y.1 = some c) : closureFor scope env = pure (clOf env.cells scope.names []) := by
  unfold closureFor
  have e := closure_go scope.names [] h
  refine Eq.trans ?_ (congrArg (fun z => z >>= fun cs => (pure cs : Sem (List (Str × Addr)))) e)
  rfl
theorem clOf_sub {cells : List (Str × Addr)} {x : Str} {c : Addr} : ∀ (l : List (Str × NameKind)) (acc : List (Str × Addr)), (∀ y ∈ l, y.2 = .free → ∃ c, cells.lookup y.1 = some c) → (∀ x c, acc.lookup x = some c → cells.lookup x = some c) → (clOf cells l acc).lookup x = some c → cells.lookup x = some c
  | [], acc, _, ha, h => ha x c h
  | (n, k) :: r, acc, hl, ha, h => by
    unfold clOf at h
    split at h
    · rename_i hk
      obtain ⟨c', hc'⟩ := hl (n, k) (List.mem_cons_self ..) (by simpa using hk)
      refine clOf_sub r _ (fun y hy => hl y (List.mem_cons_of_mem _ hy)) (fun z d hz => ?_) h
      rw [show cells.lookup n = some c' from hc'] at hz
      rw [List.lookup_cons] at hz
      cases hzn : z == n with
      | true =>
        rw [hzn] at hz
        have e1 : z = n := by simpa using hzn
        rw [e1, show cells.lookup n = some c' from hc']
        simpa using hz
      | false =>
        rw [hzn] at hz
        exact ha z d hz
    · exact clOf_sub r acc (fun y hy => hl y (List.mem_cons_of_mem _ hy)) ha h
theorem clOf_acc {cells : List (Str × Addr)} {x : Str} : ∀ (l : List (Str × NameKind)) (acc : List (Str × Addr)), (∃ c, acc.lookup x = some c) → ∃ c, (clOf cells l acc).lookup x = some c
  | [], _, h => h
  | (n, k) :: r, acc, h => by
    unfold clOf
    split
    · refine clOf_acc r _ ?_
      rw [List.lookup_cons]
      split
      · exact ⟨_, rfl⟩
      · exact h
    · exact clOf_acc r acc h
theorem clOf_has {cells : List (Str × Addr)} {x : Str} : ∀ (l : List (Str × NameKind)) (acc : List (Str × Addr)), (x, NameKind.free) ∈ l → ∃ c, (clOf cells l acc).lookup x = some c
  | [], _, h => absurd h List.not_mem_nil
  | (n, k) :: r, acc, h => by
    unfold clOf
    rcases List.mem_cons.mp h with e | e
    · cases e
      rw [if_pos (by decide)]
      refine clOf_acc r _ ?_
      rw [List.lookup_cons, beq_self_eq_true]
      exact ⟨_, rfl⟩
    · split
      · exact clOf_has r _ e
      · exact clOf_has r _ e
theorem lookup_mem {x : Str} {k : NameKind} : ∀ {l : List (Str × NameKind)}, l.lookup x = some k → (x, k) ∈ l
  | [], h => by simp at h
  | (n, j) :: r, h => by
    rw [List.lookup_cons] at h
    cases e : x == n with
    | true =>
      rw [e] at h
      have e1 : x = n := by simpa using e
      have e2 : j = k := by simpa using h
      rw [e1, e2]
      exact List.mem_cons_self ..
    | false =>
      rw [e] at h
      exact List.mem_cons_of_mem _ (lookup_mem h)
/-- what the block's own table says of a name that it takes from the def -/
theorem relab_free {env : Env} (hk : env.scope.kind = .function) {x : Str} (hx : env.kindOf x = some .cell) : ∀ {l : List (Str × NameKind)}, l.lookup x = some .free →
    (l.map fun (n, k) => if (k == NameKind.free && env.scope.kind == .function && env.kindOf n == some .cell) then (n, NameKind.cell) else (n, k)).lookup x = some .cell
  | [], h => by simp at h
  | (n, k) :: r, h => by
    rw [List.lookup_cons] at h
    rw [List.map_cons]
    show List.lookup x ((if (k == NameKind.free && env.scope.kind == .function && env.kindOf n == some .cell) = true then (n, NameKind.cell) else (n, k)) :: _) = _
    cases e : x == n with
    | true =>
      rw [e] at h
      have e1 : x = n := by simpa using e
      have e2 : k = .free := by simpa using h
      subst e1 e2
      have z : ((NameKind.free == NameKind.free && env.scope.kind == .function && env.kindOf x == some .cell) : Bool) = true := by rw [hk, hx]; decide
      rw [if_pos z, List.lookup_cons, beq_self_eq_true]
    | false =>
      rw [e] at h
      have ih := relab_free hk hx (l := r) h
      by_cases z : (k == NameKind.free && env.scope.kind == .function && env.kindOf n == some .cell) = true
      · rw [if_pos z, List.lookup_cons, e]
        exact ih
      · rw [if_neg z, List.lookup_cons, e]
        exact ih
theorem relab_back {env : Env} {x : Str} : ∀ {l : List (Str × NameKind)}, (∀ y ∈ l, y.2 ≠ .cell) → ((l.map fun (n, k) => if (k == NameKind.free && env.scope.kind == .function && env.kindOf n == some .cell) then (n, NameKind.cell) else (n, k)).lookup x = some .cell ∨
    (l.map fun (n, k) => if (k == NameKind.free && env.scope.kind == .function && env.kindOf n == some .cell) then (n, NameKind.cell) else (n, k)).lookup x = some .free) → (x, NameKind.free) ∈ l
  | [], _, h => by simp at h
  | (n, k) :: r, hc, h => by
    have again : ∀ (z : (r.map fun (n, k) => if (k == NameKind.free && env.scope.kind == .function && env.kindOf n == some .cell) then (n, NameKind.cell) else (n, k)).lookup x = some .cell ∨ (r.map fun (n, k) => if (k == NameKind.free && env.scope.kind == .function && env.kindOf n == some .cell) then (n, NameKind.cell) else (n, k)).lookup x = some .free), (x, NameKind.free) ∈ (n, k) :: r :=
      fun z => List.mem_cons_of_mem _ (relab_back (fun y hy => hc y (List.mem_cons_of_mem _ hy)) z)
    rw [List.map_cons] at h
    change List.lookup x ((if (k == NameKind.free && env.scope.kind == .function && env.kindOf n == some .cell) = true then (n, NameKind.cell) else (n, k)) :: _) = some NameKind.cell ∨ List.lookup x ((if (k == NameKind.free && env.scope.kind == .function && env.kindOf n == some .cell) = true then (n, NameKind.cell) else (n, k)) :: _) = some NameKind.free at h
    by_cases z : (k == NameKind.free && env.scope.kind == .function && env.kindOf n == some .cell) = true
    · have hk : k = .free := by
        simp only [Bool.and_eq_true, beq_iff_eq] at z
        exact z.1.1
      rw [if_pos z, List.lookup_cons] at h
      cases e : x == n with
      | true =>
        have e1 : x = n := by simpa using e
        rw [e1, hk]
        exact List.mem_cons_self ..
      | false =>
        rw [e] at h
        exact again h
    · rw [if_neg z, List.lookup_cons] at h
      cases e : x == n with
      | true =>
        rw [e] at h
        have e1 : x = n := by simpa using e
        rcases h with h | h
        · exact absurd (by simpa using h) (hc (n, k) (List.mem_cons_self ..))
        · have e2 : k = .free := by simpa using h
          rw [e1, e2]
          exact List.mem_cons_self ..
      | false =>
        rw [e] at h
        exact again h
/-- the block's names N', for each the def's slot from which it comes (none: its own), checked once -/
structure Blk (N N' : List Str) (src : List (Option Nat)) (fsc sc : Scope) : Prop where
  kind : sc.kind = .function
  cell : ∀ y ∈ sc.names, y.2 ≠ .cell
  names : ∀ y ∈ sc.names, y.2 = .local → sc.names.lookup y.1 = some .local
  free : ∀ y ∈ sc.names, y.2 = .free → fsc.names.lookup y.1 = some .cell
  len : src.length = N'.length
  sees : ((N'.zip src).all fun y => match y.2 with | none => true | some i => decide (N[i]? = some y.1) && decide (sc.names.lookup y.1 = some .free)) = true
def seen (src : List (Option Nat)) (σ : St) : St := src.map fun o => o.bind fun i => (σ[i]?).join
/-- the block's context -/
abbrev blk (X : Cx) (N' : List Str) (sc : Scope) (cl : List (Str × Addr)) (C : Addr) (s : Shared) (H : Hp) (fp : List Addr) (pn : List (Addr × Obj)) : Cx :=
  { X with N := N', s₀ := s, H₀ := H, env := compEnvC sc cl C X.env, outer := X.stack, ex := fp, fn := fun _ => false, pn := pn }
theorem blk_ok {X : Cx} {N N' : List Str} {src : List (Option Nat)} {fsc sc : Scope} {pins : List (Addr × Obj)} {σ : St} {H : Hp} {s : Shared} {fp : List Addr} {h' : Heap} {tk : Nat} {m : Str → Option Value} (I : Inv X pins σ H s) (B : Blk N N' src fsc sc) (hN : X.N = N) (hs : X.env.scope = fsc)
    (f2 : ∀ b ∈ fp, FpOk X pins H b) (fb : ∀ b ∈ fp, b < s.heap.objs.size) (hn : h'.Ns s.heap.objs.size m) (kp : ∀ b o, s.heap.get? b = some o → h'.get? b = some o) :
    Inv (blk X N' sc (clOf X.env.cells sc.names []) s.heap.objs.size s H fp (X.pn ++ pins)) [] (seen src σ) H { s with heap := h', toks := tk } := by
  subst hN hs
  have hfr : ∀ y ∈ sc.names, y.2 = .free → ∃ c, X.env.cells.lookup y.1 = some c := fun y hy e => I.ok.has y.1 (.inl (B.free y hy e))
  have sub : ∀ x c, (clOf X.env.cells sc.names []).lookup x = some c → X.env.cells.lookup x = some c := fun x c e => clOf_sub sc.names [] hfr (fun _ _ z => by simp at z) e
  have has : ∀ x, (x, NameKind.free) ∈ sc.names → ∃ c, (clOf X.env.cells sc.names []).lookup x = some c := fun x hx => clOf_has sc.names [] hx
  have ok : Cx.Ok (blk X N' sc (clOf X.env.cells sc.names []) s.heap.objs.size s H fp (X.pn ++ pins)) := by
    refine ⟨I.ok.mod, B.kind, I.ok.glob, I.ok.blt, Nat.le_refl _, fun x y c e1 e2 => I.ok.inj x y c (sub x c e1) (sub y c e2), fun x hx => has x (relab_back B.cell hx), fun x c e => (nomatch e), I.ok.hd, I.ok.frames, .inl rfl, fun b hb => ⟨Nat.ne_of_lt (fb b hb), fun x c e => (f2 b hb).2.2.2.2.1 x c (sub x c e)⟩,
      I.bs, Nat.le_trans I.ok.bsz I.sz, fun b o e hb => ?_, fun b hb z => ?_, I.stack, I.stkFree⟩
    · rcases (f2 b hb).2.2.2.1 with z | z
      · exact I.ok.noex b o e z
      · exact absurd (Nat.lt_of_lt_of_le (Heap.lt_size e) (Nat.le_trans I.ok.bsz z)) (Nat.lt_irrefl _)
    · rcases List.mem_cons.mp (I.stkSub b z) with e | e
      · exact (f2 b hb).2.1 e
      · exact (f2 b hb).2.2.1 e
  refine ⟨ok, rfl, I.bare, Un.kept kp, ⟨m, hn, fun j x v e1 e2 e3 => ?_⟩, fun x c e => ?_, I.hok.fresh (Nat.le_refl _), fun x c e => I.freeC x c (sub x c e), fun p hp => ?_, I.hok.kept kp, ?_⟩
  · have e2' : (src[j]?).map (fun o => o.bind fun i => (σ[i]?).join) = some (some v) := by
      have z := e2
      unfold seen at z
      rw [List.getElem?_map] at z
      exact z
    cases hj : src[j]? with
    | none => rw [hj] at e2'; cases e2'
    | some o =>
      rw [hj] at e2'
      cases o with
      | none => cases e2'
      | some i =>
        have hσ : σ[i]? = some (some v) := by
          have z : (σ[i]?).join = some v := by simpa using e2'
          cases hz : σ[i]? with
          | none => rw [hz] at z; cases z
          | some w => rw [hz] at z; exact congrArg some z
        have hz : (x, some i) ∈ N'.zip src := by
          have q : (N'.zip src)[j]? = some (x, some i) := by
            rw [List.getElem?_zip_eq_some]
            exact ⟨e1, hj⟩
          exact List.mem_of_getElem? q
        have q := List.all_eq_true.mp B.sees _ hz
        simp only [Bool.and_eq_true, decide_eq_true_eq] at q
        obtain ⟨q1, q2⟩ := q
        have hkc : X.env.kindOf x = some .cell := B.free _ (lookup_mem q2) rfl
        obtain ⟨m0, _, hl⟩ := I.loc
        obtain ⟨u, ru, lk⟩ := hl i x v q1 hσ (.inr (.inl hkc))
        refine ⟨u, ru, .inr ⟨.inl (relab_free I.ok.kind hkc q2), ?_⟩⟩
        rcases lk with ⟨k, _⟩ | ⟨_, c, e, z⟩
        · rw [hkc] at k; cases k
        · obtain ⟨c', hc'⟩ := has x (lookup_mem q2)
          have e' := sub x c' hc'
          rw [e] at e'
          cases e'
          obtain ⟨o, ho, hd⟩ := z
          exact ⟨c, hc', o, kp _ _ ho, hd⟩
  · obtain ⟨v, o, ho, hd⟩ := I.cell x c (sub x c e)
    exact ⟨v, o, kp _ _ ho, hd⟩
  · rw [List.append_nil] at hp
    obtain ⟨e, n, ne, nf, d⟩ := I.pin p hp
    refine ⟨kp _ _ e, n, Nat.ne_of_lt (Heap.lt_size e), fun z => ?_, d⟩
    rcases List.mem_cons.mp (I.stkSub p.1 z) with q | q
    · exact ne q
    · exact nf q
  · show (seen src σ).length = N'.length
    unfold seen
    rw [List.length_map, B.len]
theorem Un.same {fs ex : List Addr} {H H1 : Hp} {h h1 h2 : Heap} {a : Addr} (u : Un fs ex H H1 h h1) (hs : Heap.SameBut a h1 h2) (ha : h.objs.size ≤ a) : Un fs ex H H1 h h2 := by
  have ne : ∀ b o, h.get? b = some o → b ≠ a := fun b o e => Nat.ne_of_lt (Nat.lt_of_lt_of_le (Heap.lt_size e) ha)
  refine ⟨fun b o e n h1 h2 => ?_, fun b o e n h1 h2 => ?_, u.free, fun b o e h1 => ?_, u.tups, u.frzs, u.tbls⟩
  · exact (hs.2 b (ne b o e)).trans (u.keep b o e n h1 h2)
  · obtain ⟨sl, q⟩ := u.slot b o e n h1 h2
    exact ⟨sl, (hs.2 b (ne b o e)).trans q⟩
  · obtain ⟨o', q⟩ := u.there b o e h1
    exact ⟨o', (hs.2 b (ne b o e)).trans q⟩
theorem HOk.same {P : Program} {w : World} {H : Hp} {h h' : Heap} {a : Addr} (x : HOk P w H h) (hs : Heap.SameBut a h h') (ha : H a = none) : HOk P w H h' := fun b o e => by
  refine (x b o e).stay (fun c u hc q => (hs.2 c ?_).trans q) (fun _ q => q) fun _ _ q => q
  rintro rfl
  rcases hc with rfl | hc
  · rw [ha] at e; cases e
  · rw [ha] at hc; cases hc
/-- the tests of a clause -/
def PTs (X : Cx) (ifs : List Expr) (t : TT) : Prop :=
  ∀ (pins : List (Addr × Obj)) (s : Shared) (σ : St) (H : Hp) (Q : Bool → Hp → Prop), Inv X pins σ H s → t σ H Q →
    wpAny (model X.prog X.w) X.A (forIn ifs true fun c r => if r = true then do let ok ← isTrue c X.env (eval c X.env); pure (ForInStep.yield ok) else pure (ForInStep.yield r)) (TP X pins σ Q) X.xe s
theorem pts_nil {X : Cx} : PTs X [] (fun _ H Q => Q true H) := fun _ _ _ H _ I h => wpAny_pure ⟨H, I, h⟩
end L2

namespace L2
open PySem PySem.Spec PyProof.Rows
/-- the loop of a comprehension that lets no exception out -/
theorem comp_loop {P : Program} {w : World} {A : Around} {R : Result → Shared → Prop} {s : Shared} {elt tg iter : Expr} {ifs : List Expr} {sc : Scope} {pos : Pos} {it acc : Value} {env : Env} (J : Nat → Shared → Prop)
    (turn : ∀ k s', J k s' → wpAny (model P w) A (pyNext it) (fun r s1 => match r with
      | none => R (.ok .next) s1
      | some v => wpAny (model P w) A (letOwnedTupleGo tg it v) (fun _ s2 => wpAny (model P w) A (assign tg env v) (fun _ s3 =>
          wpAny (model P w) A (forIn ifs true fun c r => if r = true then do let ok ← isTrue c env (eval c env); pure (ForInStep.yield ok) else pure (ForInStep.yield r)) (fun b s4 =>
            if b = true then wpAny (model P w) A (eval elt env) (fun y s5 => wpAny (model P w) A (call (.builtin "list.append") [acc, y]) (fun _ s6 => ∃ m, m < k ∧ J m s6) (fun _ _ => False) s5) (fun _ _ => False) s4
            else ∃ m, m < k ∧ J m s4) (fun _ _ => False) s3) (fun _ _ => False) s2) (fun _ _ => False) s1) (fun _ _ => False) s')
    (k : Nat) (h : J k s) : codeAny (model P w) A (.compLoop (.ListComp elt [⟨tg, iter, ifs, 0⟩] sc pos) 0 it acc env) R s := by
  have no : ∀ {α : Type} {t : Sem α} {Q Q' : α → Shared → Prop} {E : Value → Shared → Prop} {z : Shared}, wpAny (model P w) A t Q (fun _ _ => False) z → (∀ a z', Q a z' → Q' a z') → wpAny (model P w) A t Q' E z := fun g1 g2 => wpAny_mono g1 g2 fun _ _ f => f.elim
  refine codeAny_loop rfl J (fun k s' hJ => ?_) k h
  show wpAny _ A ((compTurn (.ListComp elt [⟨tg, iter, ifs, 0⟩] sc pos) 0 it acc env).onRaise (fun x => do noteFrame x env; theTreesLotGoes x)) _ _ s'
  refine wpAny_noted ?_
  rw [compTurn_list]
  refine wpAny_bind (wpAny_standAt (wpAny_bind (no (turn k s' hJ) fun r s1 h1 => ?_)))
  cases r with
  | none => exact wpAny_pure h1
  | some v =>
    refine wpAny_bind (no h1 fun _ s2 h2 => wpAny_bind (no h2 fun _ s3 h3 => wpAny_bind (no h3 fun b s4 h4 => ?_)))
    cases b with
    | false => exact wpAny_pure ⟨rfl, h4⟩
    | true => exact wpAny_bind (wpAny_bind (no h4 fun y s5 h5 => wpAny_bind (no h5 fun _ s6 h6 => wpAny_pure (wpAny_pure ⟨rfl, h6⟩))))
/-- the reading: D is the new list; W is what holds between two turns (turn, measure, the block's names, the heap) -/
def tComp (wi : TI) (src : List (Option Nat)) (g : TG) (tc : TT) (te : TE) : TE := fun σ H Q => wi σ H fun J H1 => ∀ D, H1 D = none → ∃ W : Nat → Nat → St → Hp → Prop, (∃ m, W 0 m (seen src σ) (upd H1 D (.lst []))) ∧ ∀ i m σ2 H2, W i m σ2 H2 →
  (J.stop i H2 ∧ Q (.ref D) H2) ∨ (J.go i H2 ∧ ∃ M : St → Hp → Prop, (∀ σ' H', M σ' H' → ∃ m', m' < m ∧ W (i + 1) m' σ' H') ∧ ∀ x H', J.yld i H2 x H' → g x σ2 H' fun σ3 H3 => tc σ3 H3 fun b H4 =>
    if b = true then te σ3 H4 fun y H5 => ∃ ys, H5 D = some (.lst ys) ∧ ys.length < sizeLine ∧ M σ3 (upd H5 D (.lst (ys ++ [y]))) else M σ3 H4)
theorem pe_comp {X : Cx} {elt tg iter : Expr} {ifs : List Expr} {sc fsc : Scope} {pos : Pos} {wi : TI} {g : TG} {tc : TT} {te : TE} {N N' : List Str} {src : List (Option Nat)} (B : Blk N N' src fsc sc) (hi : PI X tg iter wi)
    (hg : ∀ cl C s H fp pn, PG (blk X N' sc cl C s H fp pn) tg g) (ht : ∀ cl C s H fp pn, PTs (blk X N' sc cl C s H fp pn) ifs tc) (he : ∀ cl C s H fp pn, PE (blk X N' sc cl C s H fp pn) elt te)
    (hx : X.xe = (fun _ _ => False) := by rfl) (hc : X.calm = true := by rfl) (hN : X.N = N := by rfl) (hs : X.env.scope = fsc := by rfl)
    (hf : ∀ x, foldedSetIterable iter X.env x = pure x := by intro _; rfl) : PE X (.ListComp elt [⟨tg, iter, ifs, 0⟩] sc pos) (tComp wi src g tc te) := by
  intro pins s σ H Q I h
  rw [eval_ListComp]
  have hfr : ∀ y ∈ sc.names, y.2 = .free → ∃ c, X.env.cells.lookup y.1 = some c := fun y hy e => I.ok.has y.1 (.inl (by have := B.free y hy e; rw [← hs] at this; exact this))
  refine wpAny_comprehension_free (use := none) (cl := clOf X.env.cells sc.names []) rfl hf (closure_is hfr) B.kind B.names ?_
  refine thn (hi pins s σ H _ I h) fun v s1 h1 => thn h1 fun itv s2 h2 => ?_
  obtain ⟨it, fp, tn, J, H2, e, I2, T, st2, f2, q⟩ := h2
  subst e
  obtain ⟨W, ⟨m0, w0⟩, turn⟩ := q s2.heap.objs.size (I2.hok.fresh (Nat.le_refl _))
  refine wpAny_newObj_type (wpAny_newFunctionEnv B.cell (by intro y hy; simp at hy) (fun h1 hns hsb => ?_) B.kind)
  dsimp only at hns hsb ⊢
  have I3 : Inv X pins σ (upd H2 s2.heap.objs.size (.lst [])) { s2 with heap := s2.heap.push { cls := .type "list", dict := none, data := .seq ([] : List Value).toArray } } :=
    I2.laid (t' := s2.toks) (fun b o e => Heap.get?_push_of_some _ e) (Nat.le_refl _) ⟨Nat.zero_le _, [], 0, .nil, Heap.get?_push_size _ rfl⟩
  have fb : ∀ b ∈ fp, b < s2.heap.objs.size := fun b hb => by
    obtain ⟨o, e, _⟩ := T.obj 0 _ st2 b hb
    exact Heap.lt_size e
  have f3 : ∀ b ∈ fp, FpOk X pins (upd H2 s2.heap.objs.size (.lst [])) b := fun b hb => by
    refine ⟨?_, (f2 b hb).2⟩
    rw [upd_ne (Nat.ne_of_lt (fb b hb))]
    exact (f2 b hb).1
  generalize hh3 : s2.heap.push { cls := .type "list", dict := none, data := .seq ([] : List Value).toArray } = h3 at hns hsb I3 ⊢
  have z3 : s2.heap.objs.size < h3.objs.size := by rw [← hh3, Heap.size_push]; exact Nat.lt_succ_self _
  have k3 : ∀ b o, h3.get? b = some o → h1.get? b = some o := fun b o e => hsb.extBut b o (Nat.ne_of_lt (Heap.lt_size e)) (Heap.get?_push_of_some _ e)
  have I4 := blk_ok (tk := s2.toks + ([] : List (Str × Value)).length) I3 B hN hs f3 (fun b hb => Nat.lt_trans (fb b hb) z3) hns k3
  have st4 : tn 0 h1 := T.keep 0 _ _ st2 fun b hb o e => k3 b o (by rw [← hh3]; exact Heap.get?_push_of_some _ e)
  have fok : ∀ {H' : Hp}, (∀ b ∈ fp, H' b = none) → ∀ b ∈ fp, FpOk (blk X N' sc (clOf X.env.cells sc.names []) h3.objs.size { s2 with heap := h3 } (upd H2 s2.heap.objs.size (.lst [])) fp (X.pn ++ pins)) [] H' b := fun hn b hb => by
    obtain ⟨_, g1, g2, g3, g4, g5⟩ := f3 b hb
    refine ⟨hn b hb, Nat.ne_of_lt (Nat.lt_trans (fb b hb) z3), fun z => ?_, .inl hb, fun x c e => g4 x c (clOf_sub sc.names [] hfr (fun _ _ z => by simp at z) e), fun p hp => g5 p (by rw [List.append_nil] at hp; exact hp)⟩
    rcases List.mem_cons.mp (I3.stkSub b z) with e | e
    · exact g1 e
    · exact g2 e
  have loop : ∀ s4 : Shared, s4 = { s2 with heap := h1, toks := s2.toks + ([] : List (Str × Value)).length } →
      codeAny (model X.prog X.w) X.A (.compLoop (.ListComp elt [⟨tg, iter, ifs, 0⟩] sc pos) 0 (.ref it) (.ref s2.heap.objs.size) (compEnvC sc (clOf X.env.cells sc.names []) h3.objs.size X.env))
        (compPost (model X.prog X.w) X.A X.xe none (EP X pins σ Q) (.ref s2.heap.objs.size) h3.objs.size) s4 := by
    rintro s4 rfl
    refine comp_loop (fun k s' => ∃ i σ5 H5, Inv (blk X N' sc (clOf X.env.cells sc.names []) h3.objs.size { s2 with heap := h3 } (upd H2 s2.heap.objs.size (.lst [])) fp (X.pn ++ pins)) [] σ5 H5 s' ∧ tn i s'.heap ∧ (∀ b ∈ fp, H5 b = none) ∧ W i k σ5 H5) ?_ m0
      ⟨0, _, _, I4, st4, fun b hb => (f3 b hb).1, w0⟩
    rintro k s5 ⟨i, σ5, H5, I5, st5, fr5, w5⟩
    rcases turn i k σ5 H5 w5 with ⟨stop, qd⟩ | ⟨go, M, hM, step⟩
    · refine thn (T.done (blk X N' sc (clOf X.env.cells sc.names []) h3.objs.size { s2 with heap := h3 } (upd H2 s2.heap.objs.size (.lst [])) fp (X.pn ++ pins)) rfl rfl rfl hc i [] s5 σ5 H5 _ I5 (fok fr5) st5 stop) fun r s6 ⟨hr, I6⟩ => ?_
      subst hr
      obtain ⟨m6, hn6, _⟩ := id I6.loc
      refine ⟨m6, hn6, fun h' hsb' => ⟨.ref s2.heap.objs.size, H5, ?_, rfl, qd⟩⟩
      exact I3.call' (s' := { s6 with heap := h' }) (ch := fp) I6.os (Un.same I6.base hsb' (Nat.le_refl _)) (HOk.same I6.hok hsb' I6.free) I6.bare fun b hb => ⟨(f3 b hb).2.2.2.1, (f3 b hb).2.1, (f3 b hb).2.2.2.2.1, (f3 b hb).2.2.2.2.2⟩
    · refine thn (T.item (blk X N' sc (clOf X.env.cells sc.names []) h3.objs.size { s2 with heap := h3 } (upd H2 s2.heap.objs.size (.lst [])) fp (X.pn ++ pins)) rfl rfl rfl hc i [] s5 σ5 H5 _ I5 (fok fr5) st5 go) fun r s6 ⟨u, hr, h6⟩ => ?_
      subst hr
      refine thn h6 fun _ s7 ⟨x, H7, I7, r7, y7, st7, fr7⟩ => ?_
      have I7' := I7.pinned (fok fr7) (T.obj _ _ st7)
      have back : ∀ {σ8 : St} {H8 : Hp} {s8 : Shared}, Inv (blk X N' sc (clOf X.env.cells sc.names []) h3.objs.size { s2 with heap := h3 } (upd H2 s2.heap.objs.size (.lst [])) fp (X.pn ++ pins)) ([] ++ pinsAt fp s7.heap) σ8 H8 s8 → tn (i + 1) s8.heap ∧ ∀ b ∈ fp, H8 b = none := fun {σ8 H8 s8} I8 => by
        have pn8 : ∀ b ∈ fp, ∀ o, s7.heap.get? b = some o → s8.heap.get? b = some o ∧ H8 b = none := fun b hb o e => by
          have q := I8.pin (b, o) (List.mem_append_right _ (List.mem_append_right _ (mem_pinsAt hb e)))
          exact ⟨q.1, q.2.1⟩
        refine ⟨T.keep _ _ _ st7 fun b hb o e => (pn8 b hb o e).1, fun b hb => ?_⟩
        obtain ⟨o, e, _⟩ := T.obj _ _ st7 b hb
        exact (pn8 b hb o e).2
      have xf : ∀ {α : Type} {t : Sem α} {Q1 Q2 : α → Shared → Prop} {z : Shared}, wpAny (model X.prog X.w) X.A t Q1 X.xe z → (∀ a z', Q1 a z' → Q2 a z') → wpAny (model X.prog X.w) X.A t Q2 (fun _ _ => False) z := fun g1 g2 => by
        rw [hx] at g1
        exact thn g1 g2
      refine xf (hg _ _ _ _ _ _ _ s7 σ5 H7 x u _ I7' r7 (step x H7 y7)) fun _ s8 ⟨σ8, H8, I8, q8⟩ => ?_
      refine xf (ht _ _ _ _ _ _ _ s8 σ8 H8 _ I8 q8) fun b s9 ⟨H9, I9, q9⟩ => ?_
      cases b with
      | false =>
        obtain ⟨m', hm, w'⟩ := hM σ8 H9 (by simpa using q9)
        obtain ⟨g1, g2⟩ := back I9
        exact ⟨m', hm, i + 1, σ8, H9, I9.unpinned, g1, g2, w'⟩
      | true =>
        rw [if_pos rfl] at q9 ⊢
        refine xf (he _ _ _ _ _ _ _ s9 σ8 H9 _ I9 q9) fun y s10 ⟨yv, H10, I10, r10, ys, hy, hz, w⟩ => ?_
        obtain ⟨m', hm, w'⟩ := hM _ _ w
        refine xf (mt_append (X := (blk X N' sc (clOf X.env.cells sc.names []) h3.objs.size { s2 with heap := h3 } (upd H2 s2.heap.objs.size (.lst [])) fp (X.pn ++ pins))) _ s10 σ8 H10 (.ref s2.heap.objs.size) [yv] _ [y] (fun _ H11 => H11 = upd H10 s2.heap.objs.size (.lst (ys ++ [yv]))) I10 rfl (.cons r10 .nil) ⟨_, ys, yv, rfl, rfl, hy, hz, rfl⟩) fun _ s11 ⟨_, H11, I11, _, e11⟩ => ?_
        subst e11
        obtain ⟨g1, g2⟩ := back I11
        exact ⟨m', hm, i + 1, σ8, _, I11.unpinned, g1, g2, w'⟩
  exact codeAny_compStart_list (loop _ rfl) (T.self _ 0 _ _ _ st4 (loop _ rfl))
/-! ### the forms one uses: over a text, a tuple, a list -/
theorem comp_over {J : It} {n : Nat} {g : TG} {tc : TT} {te : TE} {Q : VK} {D : Addr} {σ0 : St} {H0 : Hp} (Pv : Nat → St → Hp → Prop) (h0 : Pv 0 σ0 H0)
    (hs : ∀ i σ H, i < n → Pv i σ H → J.go i H ∧ ∀ x H', J.yld i H x H' → g x σ H' fun σ3 H3 => tc σ3 H3 fun b H4 => if b = true then te σ3 H4 fun y H5 => ∃ ys, H5 D = some (.lst ys) ∧ ys.length < sizeLine ∧ Pv (i + 1) σ3 (upd H5 D (.lst (ys ++ [y]))) else Pv (i + 1) σ3 H4)
    (hd : ∀ σ H, Pv n σ H → J.stop n H ∧ Q (.ref D) H) :
    ∃ W : Nat → Nat → St → Hp → Prop, (∃ m, W 0 m σ0 H0) ∧ ∀ i m σ2 H2, W i m σ2 H2 →
      (J.stop i H2 ∧ Q (.ref D) H2) ∨ (J.go i H2 ∧ ∃ M : St → Hp → Prop, (∀ σ' H', M σ' H' → ∃ m', m' < m ∧ W (i + 1) m' σ' H') ∧ ∀ x H', J.yld i H2 x H' → g x σ2 H' fun σ3 H3 => tc σ3 H3 fun b H4 =>
        if b = true then te σ3 H4 fun y H5 => ∃ ys, H5 D = some (.lst ys) ∧ ys.length < sizeLine ∧ M σ3 (upd H5 D (.lst (ys ++ [y]))) else M σ3 H4) := by
  refine ⟨fun i m σ H => m = n - i ∧ i ≤ n ∧ Pv i σ H, ⟨n, by simp, Nat.zero_le _, h0⟩, ?_⟩
  rintro i m σ2 H2 ⟨rfl, hi, p⟩
  by_cases hlt : i < n
  · obtain ⟨go, stp⟩ := hs i σ2 H2 hlt p
    exact .inr ⟨go, Pv (i + 1), fun σ' H' p' => ⟨n - (i + 1), by omega, rfl, hlt, p'⟩, stp⟩
  · have e : i = n := by omega
    subst e
    exact .inl (hd σ2 H2 p)
end L2

namespace PL
open PySem L2

/-! ### data -/
inductive D where
  | non | bl (b : Bool) | int (i : Int) | str (l : List Nat) | ty (n : String) | rng (lo hi : Int) | cls (C : Addr)
  | tup (l : List D) | lst (l : List D) | dic (l : List (D × D)) | dit (l : List (D × D)) | obj (C : Addr) (fs : List (Str × D))
/-- what is kept by its owner and may be changed -/
inductive OD where
  | lst (l : List D) | dic (l : List (D × D)) | dit (l : List (D × D)) | obj (C : Addr) (fs : List (Str × D))
def OD.toD : OD → D
  | .lst l => .lst l
  | .dic l => .dic l
  | .dit l => .dit l
  | .obj C fs => .obj C fs

theorem paired_of {α β : Type} {R : α → β → Prop} : ∀ {l : List α} {m : List β}, l.length = m.length → (∀ (i : Nat) a b, l[i]? = some a → m[i]? = some b → R a b) → Paired R l m
  | [], [], _, _ => .nil
  | a :: l, b :: m, h, r => .cons (r 0 a b rfl rfl) (paired_of (by simpa using h) fun i x y hx hy => r (i + 1) x y (by simpa using hx) (by simpa using hy))
  | [], _ :: _, h, _ => by simp at h
  | _ :: _, [], h, _ => by simp at h
theorem paired_get {α β : Type} {R : α → β → Prop} : ∀ {l : List α} {m : List β} (i : Nat) {a : α} {b : β}, Paired R l m → l[i]? = some a → m[i]? = some b → R a b
  | _, _, _, _, _, .nil, h, _ => by simp at h
  | _, _, 0, _, _, .cons r _, h1, h2 => by simp at h1 h2; subst h1; subst h2; exact r
  | _, _, i + 1, _, _, .cons _ t, h1, h2 => paired_get i t (by simpa using h1) (by simpa using h2)
theorem paired_len {α β : Type} {R : α → β → Prop} {l : List α} {m : List β} (h : Paired R l m) : l.length = m.length := Paired.length h
theorem paired_right {α β : Type} {R : α → β → Prop} {l : List α} {m : List β} (h : Paired R l m) {i : Nat} {b : β} (e : m[i]? = some b) : ∃ a, l[i]? = some a ∧ R a b := by
  have hl := paired_len h
  have hi : i < l.length := by rw [hl]; exact (List.getElem?_eq_some_iff.mp e).1
  exact ⟨l[i], List.getElem?_eq_getElem hi, paired_get i h (List.getElem?_eq_getElem hi) e⟩
theorem paired_left {α β : Type} {R : α → β → Prop} {l : List α} {m : List β} (h : Paired R l m) {i : Nat} {a : α} (e : l[i]? = some a) : ∃ b, m[i]? = some b ∧ R a b := by
  have hl := paired_len h
  have hi : i < m.length := by rw [← hl]; exact (List.getElem?_eq_some_iff.mp e).1
  exact ⟨m[i], List.getElem?_eq_getElem hi, paired_get i h e (List.getElem?_eq_getElem hi)⟩
theorem paired_app {α β : Type} {R : α → β → Prop} : ∀ {l l' : List α} {m m' : List β}, Paired R l m → Paired R l' m' → Paired R (l ++ l') (m ++ m')
  | _, _, _, _, .nil, h => h
  | _, _, _, _, .cons r t, h => .cons r (paired_app t h)
theorem paired_take {α β : Type} {R : α → β → Prop} : ∀ {l : List α} {m : List β} (n : Nat), Paired R l m → Paired R (l.take n) (m.take n)
  | _, _, 0, _ => .nil
  | _, _, _ + 1, .nil => .nil
  | _, _, n + 1, .cons r t => .cons r (paired_take n t)
theorem paired_drop {α β : Type} {R : α → β → Prop} : ∀ {l : List α} {m : List β} (n : Nat), Paired R l m → Paired R (l.drop n) (m.drop n)
  | _, _, 0, h => h
  | _, _, _ + 1, .nil => .nil
  | _, _, n + 1, .cons _ t => paired_drop n t

def keyD : Key → D
  | .inl i => .int i
  | .inr x => .str x.cps.toList
/-- v, over the heap, is the datum d -/
inductive Den (K : PySem.W.Frag) (H : Hp) : V → D → Prop where
  | non : Den K H .non .non
  | bl (b : Bool) : Den K H (.bl b) (.bl b)
  | int (i : Int) : Den K H (.int i) (.int i)
  | str (l : List Nat) : Den K H (.str (st l)) (.str l)
  | ty (n : String) : Den K H (.ty n) (.ty n)
  | rng {a : Addr} {lo hi : Int} (h : Rd H a (.rng lo hi)) : Den K H (.ref a) (.rng lo hi)
  | cls (C : Addr) : Den K H (.ref C) (.cls C)
  | tup {a : Addr} {vs : List V} {ds : List D} (h : H a = some (.tup vs)) (l : vs.length = ds.length) (r : ∀ (i : Nat) v d, vs[i]? = some v → ds[i]? = some d → Den K H v d) : Den K H (.ref a) (.tup ds)
  | lst {a : Addr} {vs : List V} {ds : List D} (h : SqL K H a vs) (l : vs.length = ds.length) (r : ∀ (i : Nat) v d, vs[i]? = some v → ds[i]? = some d → Den K H v d) : Den K H (.ref a) (.lst ds)
  | dicK {a : Addr} {kvs : List (Key × V)} {ds : List (D × D)} (h : Rd H a (.dK kvs)) (l : kvs.length = ds.length) (r : ∀ (i : Nat) p q, kvs[i]? = some p → ds[i]? = some q → q.1 = keyD p.1) (r2 : ∀ (i : Nat) p q, kvs[i]? = some p → ds[i]? = some q → Den K H p.2 q.2) : Den K H (.ref a) (.dic ds)
  | dicT {a : Addr} {kvs : List (List Key × V)} {ep : Nat} {ds : List (D × D)} (h : H a = some (.dE kvs ep)) (l : kvs.length = ds.length) (r : ∀ (i : Nat) p q, kvs[i]? = some p → ds[i]? = some q → q.1 = .tup (p.1.map keyD)) (r2 : ∀ (i : Nat) p q, kvs[i]? = some p → ds[i]? = some q → Den K H p.2 q.2) : Den K H (.ref a) (.dit ds)
  | obj {a C dx : Addr} {fs : List (Str × V)} {ds : List (Str × D)} (h : H a = some (.ins C dx fs)) (l : fs.length = ds.length) (r : ∀ (i : Nat) p q, fs[i]? = some p → ds[i]? = some q → q.1 = p.1) (r2 : ∀ (i : Nat) p q, fs[i]? = some p → ds[i]? = some q → Den K H p.2 q.2) : Den K H (.ref a) (.obj C ds)
abbrev DenK (K : PySem.W.Frag) (H : Hp) : List (Key × V) → List (D × D) → Prop := Paired fun p q => q.1 = keyD p.1 ∧ Den K H p.2 q.2
abbrev DenT (K : PySem.W.Frag) (H : Hp) : List (List Key × V) → List (D × D) → Prop := Paired fun p q => q.1 = .tup (p.1.map keyD) ∧ Den K H p.2 q.2
abbrev DenF (K : PySem.W.Frag) (H : Hp) : List (Str × V) → List (Str × D) → Prop := Paired fun p q => q.1 = p.1 ∧ Den K H p.2 q.2
abbrev DenL (K : PySem.W.Frag) (H : Hp) : List V → List D → Prop := Paired (Den K H)

section
variable {K : PySem.W.Frag} {H H' : Hp} {v : V} {a : Addr} {vs : List V} {ds : List D}
theorem rd_mono {u : HO} (e : Same H H') (h : Rd H a u) : Rd H' a u := by
  rcases h with h | ⟨o, h⟩
  · exact .inl (e _ _ h)
  · exact .inr ⟨o, e _ _ h⟩
theorem sqT_mono (e : Same H H') (h : SqT K H a vs) : SqT K H' a vs := by
  rcases h with h | h
  · exact .inl (rd_mono e h)
  · exact .inr h
theorem sqL_mono (e : Same H H') (h : SqL K H a vs) : SqL K H' a vs := by
  rcases h with h | h
  · exact .inl (rd_mono e h)
  · exact .inr h
theorem Den.mono {d : D} (h : Den K H v d) (e : Same H H') : Den K H' v d := by
  induction h with
  | non => exact .non
  | bl b => exact .bl b
  | int i => exact .int i
  | str l => exact .str l
  | ty n => exact .ty n
  | rng h => exact .rng (rd_mono e h)
  | cls C => exact .cls C
  | tup h l r ih => exact .tup (e _ _ h) l ih
  | lst h l r ih => exact .lst (sqL_mono e h) l ih
  | dicK h l r r2 ih => exact .dicK (rd_mono e h) l r ih
  | dicT h l r r2 ih => exact .dicT (e _ _ h) l r ih
  | obj h l r r2 ih => exact .obj (e _ _ h) l r ih
theorem DenL.mono (h : DenL K H vs ds) (e : Same H H') : DenL K H' vs ds := Paired.mapP h fun _ _ q => q.mono e
theorem DenK.mono {kvs : List (Key × V)} {es : List (D × D)} (h : DenK K H kvs es) (e : Same H H') : DenK K H' kvs es := Paired.mapP h fun _ _ q => ⟨q.1, q.2.mono e⟩
theorem DenT.mono {kvs : List (List Key × V)} {es : List (D × D)} (h : DenT K H kvs es) (e : Same H H') : DenT K H' kvs es := Paired.mapP h fun _ _ q => ⟨q.1, q.2.mono e⟩
theorem DenF.mono {fs : List (Str × V)} {es : List (Str × D)} (h : DenF K H fs es) (e : Same H H') : DenF K H' fs es := Paired.mapP h fun _ _ q => ⟨q.1, q.2.mono e⟩
theorem Den.mkO {C dx : Addr} {fs : List (Str × V)} {es : List (Str × D)} (h : H a = some (.ins C dx fs)) (r : DenF K H fs es) : Den K H (.ref a) (.obj C es) := .obj h (paired_len r) (fun i _ _ h1 h2 => (paired_get i r h1 h2).1) fun i _ _ h1 h2 => (paired_get i r h1 h2).2
theorem Den.objI {C : Addr} {es : List (Str × D)} (h : Den K H v (.obj C es)) : ∃ a dx fs, v = .ref a ∧ H a = some (.ins C dx fs) ∧ DenF K H fs es := by
  cases h with
  | obj h l r r2 => exact ⟨_, _, _, rfl, h, paired_of l fun i p q h1 h2 => ⟨r i p q h1 h2, r2 i p q h1 h2⟩⟩
theorem Den.mkDK {kvs : List (Key × V)} {es : List (D × D)} (h : Rd H a (.dK kvs)) (r : DenK K H kvs es) : Den K H (.ref a) (.dic es) := .dicK h (paired_len r) (fun i _ _ h1 h2 => (paired_get i r h1 h2).1) fun i _ _ h1 h2 => (paired_get i r h1 h2).2
theorem Den.mkDT {kvs : List (List Key × V)} {ep : Nat} {es : List (D × D)} (h : H a = some (.dE kvs ep)) (r : DenT K H kvs es) : Den K H (.ref a) (.dit es) := .dicT h (paired_len r) (fun i _ _ h1 h2 => (paired_get i r h1 h2).1) fun i _ _ h1 h2 => (paired_get i r h1 h2).2
theorem Den.ditI {es : List (D × D)} (h : Den K H v (.dit es)) : ∃ a kvs ep, v = .ref a ∧ H a = some (.dE kvs ep) ∧ DenT K H kvs es := by
  cases h with
  | dicT h l r r2 => exact ⟨_, _, _, rfl, h, paired_of l fun i p q h1 h2 => ⟨r i p q h1 h2, r2 i p q h1 h2⟩⟩
theorem Den.mkT (h : H a = some (.tup vs)) (r : DenL K H vs ds) : Den K H (.ref a) (.tup ds) := .tup h (paired_len r) fun i _ _ h1 h2 => paired_get i r h1 h2
theorem Den.mkL (h : SqL K H a vs) (r : DenL K H vs ds) : Den K H (.ref a) (.lst ds) := .lst h (paired_len r) fun i _ _ h1 h2 => paired_get i r h1 h2
theorem Den.tupJ (h : Den K H v (.tup ds)) : ∃ a vs, v = .ref a ∧ H a = some (.tup vs) ∧ DenL K H vs ds := by
  cases h with
  | tup h l r => exact ⟨_, _, rfl, h, paired_of l r⟩
theorem Den.tupI (h : Den K H v (.tup ds)) : ∃ a vs, v = .ref a ∧ SqT K H a vs ∧ DenL K H vs ds := by
  cases h with
  | tup h l r => exact ⟨_, _, rfl, SqT.of h, paired_of l r⟩
theorem Den.lstI (h : Den K H v (.lst ds)) : ∃ a vs, v = .ref a ∧ SqL K H a vs ∧ DenL K H vs ds := by
  cases h with
  | lst h l r => exact ⟨_, _, rfl, h, paired_of l r⟩
theorem Den.intI {i : Int} (h : Den K H v (.int i)) : v = .int i := by cases h; rfl
theorem Den.blI {b : Bool} (h : Den K H v (.bl b)) : v = .bl b := by cases h; rfl
theorem Den.strI {l : List Nat} (h : Den K H v (.str l)) : v = .str (st l) := by cases h; rfl
end

/-! ### the state: what each name holds -/
inductive Slot where
  | emp | val (d : D) | own (o : OD) | par (j : Nat)
abbrev Sts := List Slot
/-- the entry: the heap, its frozen part, the addresses of what was handed in to be changed -/
structure Wd where
  H₀ : Hp
  Hi₀ : Hp
  F : List Addr
def OwnAt (K : PySem.W.Frag) (Hi H : Hp) (a : Addr) : OD → Prop
  | .lst ds => ∃ vs, H a = some (.lst vs) ∧ DenL K Hi vs ds
  | .dic ds => ∃ kvs, H a = some (.dK kvs) ∧ DenK K Hi kvs ds
  | .dit ds => ∃ kvs ep, H a = some (.dE kvs ep) ∧ DenT K Hi kvs ds
  | .obj C ds => ∃ dx fs, H a = some (.ins C dx fs) ∧ DenF K Hi fs ds
def refOf : Option (Option V) → Option Addr
  | some (some (.ref a)) => some a
  | _ => none
def adr (n : Nat) (W : Wd) (σ : St) (i : Nat) : Option Addr := if i < n then refOf σ[i]? else W.F[i - n]?
/-- the frozen part of a heap: all its tuples are in it -/
structure Fz (Hi H : Hp) : Prop where
  sub : Same Hi H
  tups : ∀ a xs, H a = some (.tup xs) → Hi a = some (.tup xs)
structure Good (K : PySem.W.Frag) (n : Nat) (W : Wd) (Hi : Hp) (Γ : Sts) (σ : St) (H : Hp) : Prop where
  len : σ.length = n
  fz : Fz Hi H
  keep : ∀ a o, W.H₀ a = some o → a ∉ W.F → H a = some o
  there : ∀ a o, W.H₀ a = some o → ∃ o', H a = some o'
  fro : ∀ a o, W.H₀ a = some o → Hi a = W.Hi₀ a
  val : ∀ (i : Nat) d, Γ[i]? = some (.val d) → ∃ v, σ[i]? = some (some v) ∧ Den K Hi v d
  own : ∀ (i : Nat) o, Γ[i]? = some (.own o) → ∃ a, adr n W σ i = some a ∧ Hi a = none ∧ (i < n → W.H₀ a = none) ∧ OwnAt K Hi H a o
  apart : ∀ (i j : Nat) o o' a, Γ[i]? = some (.own o) → Γ[j]? = some (.own o') → adr n W σ i = some a → adr n W σ j = some a → i = j
  par : ∀ (i j : Nat), Γ[i]? = some (.par j) → i < n ∧ n ≤ j ∧ ∃ a, adr n W σ i = some a ∧ adr n W σ j = some a

theorem Good.sub {K : PySem.W.Frag} {n : Nat} {W : Wd} {Hi : Hp} {Γ : Sts} {σ : St} {H : Hp} (g : Good K n W Hi Γ σ H) : Same Hi H := g.fz.sub
/-- both heaps have grown by new things alone -/
structure Ext (Hi H Hi' H' : Hp) : Prop where
  hi : Same Hi Hi'
  h : Same H H'
  fz : Fz Hi' H'
  fro : ∀ a o, H a = some o → Hi' a = Hi a
theorem Ext.sub {Hi H Hi' H' : Hp} (e : Ext Hi H Hi' H') : Same Hi' H' := e.fz.sub
theorem Ext.refl {Hi H : Hp} (s : Fz Hi H) : Ext Hi H Hi H := ⟨Same.refl _, Same.refl _, s, fun _ _ _ => rfl⟩
theorem Ext.trans {A B A1 B1 A2 B2 : Hp} (x : Ext A B A1 B1) (y : Ext A1 B1 A2 B2) : Ext A B A2 B2 :=
  ⟨x.hi.trans y.hi, x.h.trans y.h, y.fz, fun a o e => (y.fro a o (x.h a o e)).trans (x.fro a o e)⟩
theorem same_upd {H : Hp} {p : Addr} (h : H p = none) (o : HO) : Same H (upd H p o) := fun b u q => by rw [upd_ne (ne_of_none q h)]; exact q
theorem Ext.new {Hi H : Hp} {p : Addr} (s : Fz Hi H) (h : H p = none) (o : HO) : Ext Hi H (upd Hi p o) (upd H p o) := by
  have hi : Hi p = none := s.sub.free h
  refine ⟨same_upd hi o, same_upd h o, ⟨fun b u q => ?_, fun b xs q => ?_⟩, fun b u q => ?_⟩
  · by_cases e : b = p
    · subst e; rw [upd_same] at q ⊢; exact q
    · rw [upd_ne e] at q ⊢; exact s.sub b u q
  · by_cases e : b = p
    · subst e; rw [upd_same] at q ⊢; exact q
    · rw [upd_ne e] at q ⊢; exact s.tups b xs q
  · exact upd_ne (ne_of_none q h)
/-- .. where the new thing is not frozen -/
theorem Ext.newO {Hi H : Hp} {p : Addr} (s : Fz Hi H) (h : H p = none) (o : HO) (ho : ∀ xs, o ≠ .tup xs) : Ext Hi H Hi (upd H p o) :=
  ⟨Same.refl _, same_upd h o, ⟨s.sub.trans (same_upd h o), fun b xs q => by
    by_cases e : b = p
    · subst e; rw [upd_same] at q; exact absurd (Option.some.inj q) (ho xs)
    · rw [upd_ne e] at q; exact s.tups b xs q⟩, fun _ _ _ => rfl⟩

section
variable {K : PySem.W.Frag} {n : Nat} {W : Wd} {Hi Hi' H H' : Hp} {Γ : Sts} {σ : St} {a : Addr} {o : OD}
theorem OwnAt.there (h : OwnAt K Hi H a o) : ∃ u, H a = some u := by
  cases o with
  | lst ds => obtain ⟨vs, e, _⟩ := h; exact ⟨_, e⟩
  | dic ds => obtain ⟨kvs, e, _⟩ := h; exact ⟨_, e⟩
  | dit ds => obtain ⟨kvs, ep, e, _⟩ := h; exact ⟨_, e⟩
  | obj C ds => obtain ⟨dx, fs, e, _⟩ := h; exact ⟨_, e⟩
theorem OwnAt.mono (h : OwnAt K Hi H a o) (hi : Same Hi Hi') (e : ∀ u, H a = some u → H' a = some u) : OwnAt K Hi' H' a o := by
  cases o with
  | lst ds => obtain ⟨vs, q, r⟩ := h; exact ⟨vs, e _ q, r.mono hi⟩
  | dic ds => obtain ⟨kvs, q, r⟩ := h; exact ⟨kvs, e _ q, r.mono hi⟩
  | dit ds => obtain ⟨kvs, ep, q, r⟩ := h; exact ⟨kvs, ep, e _ q, r.mono hi⟩
  | obj C ds => obtain ⟨dx, fs, q, r⟩ := h; exact ⟨dx, fs, e _ q, r.mono hi⟩
theorem OwnAt.notTup (h : OwnAt K Hi H a o) : ∀ xs, H a ≠ some (.tup xs) := fun xs z => by
  cases o with
  | lst ds => obtain ⟨vs, e, _⟩ := h; rw [e] at z; cases z
  | dic ds => obtain ⟨kvs, e, _⟩ := h; rw [e] at z; cases z
  | dit ds => obtain ⟨kvs, ep, e, _⟩ := h; rw [e] at z; cases z
  | obj C ds => obtain ⟨dx, fs, e, _⟩ := h; rw [e] at z; cases z
theorem Good.ext (g : Good K n W Hi Γ σ H) (e : Ext Hi H Hi' H') : Good K n W Hi' Γ σ H' where
  len := g.len
  fz := e.fz
  keep := fun a o h n => e.h a o (g.keep a o h n)
  there := fun a o h => by
    obtain ⟨o', q⟩ := g.there a o h
    exact ⟨o', e.h a o' q⟩
  fro := fun a o h => by
    obtain ⟨o', q⟩ := g.there a o h
    exact (e.fro a o' q).trans (g.fro a o h)
  val := fun i d h => by
    obtain ⟨v, h1, h2⟩ := g.val i d h
    exact ⟨v, h1, h2.mono e.hi⟩
  own := fun i o h => by
    obtain ⟨a, h1, h2, h3, h4⟩ := g.own i o h
    obtain ⟨u, hu⟩ := h4.there
    exact ⟨a, h1, (e.fro a u hu).trans h2, h3, h4.mono e.hi fun u q => e.h a u q⟩
  apart := g.apart
  par := g.par
theorem Good.weak (g : Good K n W Hi Γ σ H) {Γ' : Sts} (h : ∀ (i : Nat) s, Γ'[i]? = some s → s = .emp ∨ Γ[i]? = some s) : Good K n W Hi Γ' σ H where
  len := g.len
  fz := g.fz
  keep := g.keep
  there := g.there
  fro := g.fro
  val := fun i d e => by
    rcases h i _ e with z | z
    · cases z
    · exact g.val i d z
  own := fun i d e => by
    rcases h i _ e with z | z
    · cases z
    · exact g.own i d z
  apart := fun i j o o' a e1 e2 => by
    rcases h i _ e1 with z | z
    · cases z
    · rcases h j _ e2 with y | y
      · cases y
      · exact g.apart i j o o' a z y
  par := fun i j e => by
    rcases h i _ e with z | z
    · cases z
    · exact g.par i j z
theorem refOf_some {o : Option (Option V)} (h : refOf o = some a) : o = some (some (.ref a)) := by
  unfold refOf at h
  split at h
  · cases h; rfl
  · cases h
/-- a name takes a value -/
theorem Good.set (g : Good K n W Hi Γ σ H) {i : Nat} {v : V} {d : D} (hi : i < n) (r : Den K Hi v d) : Good K n W Hi (Γ.set i (.val d)) (σ.set i (some v)) H := by
  have ad : ∀ j, j ≠ i → adr n W (σ.set i (some v)) j = adr n W σ j := fun j hj => by
    unfold adr
    rw [List.getElem?_set_ne (fun z => hj z.symm)]
  have inv : ∀ (j : Nat) (s : Slot), (Γ.set i (.val d))[j]? = some s → (j = i ∧ s = .val d) ∨ (j ≠ i ∧ Γ[j]? = some s) := fun j s e => by
    by_cases hj : j = i
    · subst hj
      refine .inl ⟨rfl, ?_⟩
      rw [List.getElem?_set] at e
      simp only [if_true] at e
      split at e
      · exact (Option.some.inj e).symm
      · cases e
    · rw [List.getElem?_set_ne (fun z => hj z.symm)] at e
      exact .inr ⟨hj, e⟩
  refine ⟨by rw [List.length_set]; exact g.len, g.fz, g.keep, g.there, g.fro, fun j d' e => ?_, fun j o e => ?_, fun j k o o' a e1 e2 h1 h2 => ?_, fun j k e => ?_⟩
  · rcases inv j _ e with ⟨rfl, z⟩ | ⟨hj, z⟩
    · cases z
      exact ⟨v, by rw [List.getElem?_set_self (by rw [g.len]; exact hi)], r⟩
    · obtain ⟨w, h1, h2⟩ := g.val j d' z
      exact ⟨w, by rw [List.getElem?_set_ne (fun z => hj z.symm)]; exact h1, h2⟩
  · rcases inv j _ e with ⟨rfl, z⟩ | ⟨hj, z⟩
    · cases z
    · obtain ⟨a, h1, h2⟩ := g.own j o z
      exact ⟨a, by rw [ad j hj]; exact h1, h2⟩
  · rcases inv j _ e1 with ⟨rfl, z⟩ | ⟨hj, z⟩
    · cases z
    · rcases inv k _ e2 with ⟨rfl, y⟩ | ⟨hk, y⟩
      · cases y
      · exact g.apart j k o o' a z y (by rw [← ad j hj]; exact h1) (by rw [← ad k hk]; exact h2)
  · rcases inv j _ e with ⟨rfl, z⟩ | ⟨hj, z⟩
    · cases z
    · obtain ⟨h1, h2, a, h3, h4⟩ := g.par j k z
      exact ⟨h1, h2, a, by rw [ad j hj]; exact h3, by rw [ad k (by omega)]; exact h4⟩
/-- a name takes a new thing of its own -/
theorem Good.setO (g : Good K n W Hi Γ σ H) {i : Nat} (hi : i < n) (h0 : Hi a = none) (h1 : W.H₀ a = none) (h2 : ∀ (j : Nat) o', Γ[j]? = some (.own o') → adr n W σ j ≠ some a) (h3 : OwnAt K Hi H a o) : Good K n W Hi (Γ.set i (.own o)) (σ.set i (some (.ref a))) H := by
  have ad : ∀ j, j ≠ i → adr n W (σ.set i (some (.ref a))) j = adr n W σ j := fun j hj => by
    unfold adr
    rw [List.getElem?_set_ne (fun z => hj z.symm)]
  have ai : adr n W (σ.set i (some (.ref a))) i = some a := by
    unfold adr
    rw [if_pos hi, List.getElem?_set_self (by rw [g.len]; exact hi)]
    rfl
  have inv : ∀ (j : Nat) (s : Slot), (Γ.set i (.own o))[j]? = some s → (j = i ∧ s = .own o) ∨ (j ≠ i ∧ Γ[j]? = some s) := fun j s e => by
    by_cases hj : j = i
    · subst hj
      refine .inl ⟨rfl, ?_⟩
      rw [List.getElem?_set] at e
      simp only [if_true] at e
      split at e
      · exact (Option.some.inj e).symm
      · cases e
    · rw [List.getElem?_set_ne (fun z => hj z.symm)] at e
      exact .inr ⟨hj, e⟩
  refine ⟨by rw [List.length_set]; exact g.len, g.fz, g.keep, g.there, g.fro, fun j d' e => ?_, fun j o e => ?_, fun j k o o' b e1 e2 q1 q2 => ?_, fun j k e => ?_⟩
  · rcases inv j _ e with ⟨rfl, z⟩ | ⟨hj, z⟩
    · cases z
    · obtain ⟨w, h1, h2⟩ := g.val j d' z
      exact ⟨w, by rw [List.getElem?_set_ne (fun z => hj z.symm)]; exact h1, h2⟩
  · rcases inv j _ e with ⟨rfl, z⟩ | ⟨hj, z⟩
    · cases z
      exact ⟨a, ai, h0, fun _ => h1, h3⟩
    · obtain ⟨b, q1, q2⟩ := g.own j o z
      exact ⟨b, by rw [ad j hj]; exact q1, q2⟩
  · rcases inv j _ e1 with ⟨rfl, z⟩ | ⟨hj, z⟩
    · rcases inv k _ e2 with ⟨rfl, y⟩ | ⟨hk, y⟩
      · rfl
      · rw [ai] at q1
        cases q1
        rw [ad k hk] at q2
        exact absurd q2 (h2 k _ y)
    · rcases inv k _ e2 with ⟨rfl, y⟩ | ⟨hk, y⟩
      · rw [ai] at q2
        cases q2
        rw [ad j hj] at q1
        exact absurd q1 (h2 j _ z)
      · exact g.apart j k o o' b z y (by rw [← ad j hj]; exact q1) (by rw [← ad k hk]; exact q2)
  · rcases inv j _ e with ⟨rfl, z⟩ | ⟨hj, z⟩
    · cases z
    · obtain ⟨h1, h2, b, h3, h4⟩ := g.par j k z
      exact ⟨h1, h2, b, by rw [ad j hj]; exact h3, by rw [ad k (by omega)]; exact h4⟩
/-- what a name owns is changed in its place -/
theorem Good.put (g : Good K n W Hi Γ σ H) {i : Nat} {o0 : OD} {u : HO} (e0 : Γ[i]? = some (.own o0)) (ha : adr n W σ i = some a) (hn : OwnAt K Hi (upd H a u) a o) : Good K n W Hi (Γ.set i (.own o)) σ (upd H a u) := by
  obtain ⟨a', h1, h2, h3, h4⟩ := g.own i _ e0
  rw [ha] at h1
  cases h1
  have hF : i < n ∨ a ∈ W.F := by
    by_cases hi : i < n
    · exact .inl hi
    · unfold adr at ha
      rw [if_neg hi] at ha
      exact .inr (List.mem_of_getElem? ha)
  have inv : ∀ (j : Nat) (s : Slot), (Γ.set i (.own o))[j]? = some s → (j = i ∧ s = .own o) ∨ (j ≠ i ∧ Γ[j]? = some s) := fun j s e => by
    by_cases hj : j = i
    · subst hj
      refine .inl ⟨rfl, ?_⟩
      rw [List.getElem?_set] at e
      simp only [if_true] at e
      split at e
      · exact (Option.some.inj e).symm
      · cases e
    · rw [List.getElem?_set_ne (fun z => hj z.symm)] at e
      exact .inr ⟨hj, e⟩
  refine ⟨g.len, ⟨fun b w q => ?_, fun b xs q => ?_⟩, fun b w q nf => ?_, fun b w q => ?_, g.fro, fun j d' e => ?_, fun j o' e => ?_, fun j k o1 o2 b e1 e2 q1 q2 => ?_, fun j k e => ?_⟩
  · rw [upd_ne (fun z => by rw [z, h2] at q; cases q)]
    exact g.sub b w q
  · by_cases hb : b = a
    · subst hb
      exact absurd q (hn.notTup xs)
    · rw [upd_ne hb] at q
      exact g.fz.tups b xs q
  · have hb : b ≠ a := fun z => by
      subst z
      rcases hF with hi | hf
      · rw [h3 hi] at q; cases q
      · exact nf hf
    rw [upd_ne hb]
    exact g.keep b w q nf
  · by_cases hb : b = a
    · exact ⟨u, by rw [hb, upd_same]⟩
    · obtain ⟨w', hw⟩ := g.there b w q
      exact ⟨w', by rw [upd_ne hb]; exact hw⟩
  · rcases inv j _ e with ⟨rfl, z⟩ | ⟨hj, z⟩
    · cases z
    · exact g.val j d' z
  · rcases inv j _ e with ⟨rfl, z⟩ | ⟨hj, z⟩
    · cases z
      exact ⟨a, ha, h2, h3, hn⟩
    · obtain ⟨b, q1, q2, q3, q4⟩ := g.own j o' z
      have hb : b ≠ a := fun w => hj (g.apart j i _ _ a z e0 (by rw [← w]; exact q1) ha)
      exact ⟨b, q1, q2, q3, q4.mono (Same.refl _) fun w hw => by rw [upd_ne hb]; exact hw⟩
  · have e1' : ∃ oo, Γ[j]? = some (.own oo) := by
      rcases inv j _ e1 with ⟨rfl, z⟩ | ⟨hj, z⟩
      · exact ⟨_, e0⟩
      · exact ⟨_, z⟩
    have e2' : ∃ oo, Γ[k]? = some (.own oo) := by
      rcases inv k _ e2 with ⟨rfl, z⟩ | ⟨hj, z⟩
      · exact ⟨_, e0⟩
      · exact ⟨_, z⟩
    obtain ⟨_, z1⟩ := e1'
    obtain ⟨_, z2⟩ := e2'
    exact g.apart j k _ _ b z1 z2 q1 q2
  · rcases inv j _ e with ⟨rfl, z⟩ | ⟨hj, z⟩
    · cases z
    · exact g.par j k z
/-- what is owned may be frozen: the thing at a, which no name owns -/
theorem Good.freezeA (g : Good K n W Hi Γ σ H) (h0 : Hi a = none) (h1 : W.H₀ a = none) (h2 : ∀ (j : Nat) o', Γ[j]? = some (.own o') → adr n W σ j ≠ some a) {u : HO} (hu : H a = some u) : Good K n W (upd Hi a u) Γ σ H := by
  have hs : Same Hi (upd Hi a u) := same_upd h0 u
  refine ⟨g.len, ⟨fun b w q => ?_, fun b xs q => ?_⟩, g.keep, g.there, fun b w q => ?_, fun j d' e => ?_, fun j o' e => ?_, g.apart, g.par⟩
  · by_cases hb : b = a
    · subst hb; rw [upd_same] at q; cases q; exact hu
    · rw [upd_ne hb] at q; exact g.sub b w q
  · have hb : b ≠ a := fun z => by
      have := g.fz.tups b xs q
      rw [z, h0] at this; cases this
    rw [upd_ne hb]
    exact g.fz.tups b xs q
  · have hb : b ≠ a := fun z => by subst z; rw [h1] at q; cases q
    rw [upd_ne hb]
    exact g.fro b w q
  · obtain ⟨w, q1, q2⟩ := g.val j d' e
    exact ⟨w, q1, q2.mono hs⟩
  · obtain ⟨b, q1, q2, q3, q4⟩ := g.own j o' e
    have hb : b ≠ a := fun z => h2 j o' e (by rw [← z]; exact q1)
    exact ⟨b, q1, by rw [upd_ne hb]; exact q2, q3, q4.mono hs fun _ z => z⟩
theorem OwnAt.den (h : OwnAt K Hi H a o) (h0 : Hi a = none) {u : HO} (hu : H a = some u) : Den K (upd Hi a u) (.ref a) o.toD := by
  cases o with
  | lst ds =>
    obtain ⟨vs, q, r⟩ := h
    rw [hu] at q
    cases q
    exact Den.mkL (SqL.of upd_same) (r.mono (same_upd h0 _))
  | dic ds =>
    obtain ⟨kvs, q, r⟩ := h
    rw [hu] at q
    cases q
    exact Den.mkDK (.inl upd_same) (r.mono (same_upd h0 _))
  | dit ds =>
    obtain ⟨kvs, ep, q, r⟩ := h
    rw [hu] at q
    cases q
    exact Den.mkDT upd_same (r.mono (same_upd h0 _))
  | obj C ds =>
    obtain ⟨dx, fs, q, r⟩ := h
    rw [hu] at q
    cases q
    exact Den.mkO upd_same (r.mono (same_upd h0 _))
end
end PL

namespace PL
open PySem L2

/-! ### readings over data -/
abbrev TE' := Sts → (D → Sts → Prop) → Prop
abbrev TT' := Sts → (Bool → Sts → Prop) → Prop
abbrev TA' := Sts → (List D → Sts → Prop) → Prop
abbrev TO' := Sts → (OD → Sts → Prop) → Prop
abbrev TI' := Sts → (List D → Sts → Prop) → Prop
abbrev TG' := D → Sts → (Sts → Prop) → Prop
inductive Res where
  | val (d : D) | own (o : OD)
def Res.toD : Res → D
  | .val d => d
  | .own o => o.toD
structure Ends' where
  nx : Sts → Prop
  rt : Res → Sts → Prop
  bk : Sts → Prop := fun _ => False
  ct : Sts → Prop := fun _ => False
abbrev TS' := Ends' → Sts → Prop

def PostE (K : PySem.W.Frag) (n : Nat) (W : Wd) (Hi : Hp) (σ : St) (Q : D → Sts → Prop) : VK := fun v H' => ∃ Hi' d Γ', Same Hi Hi' ∧ Good K n W Hi' Γ' σ H' ∧ Den K Hi' v d ∧ Q d Γ'
def tOf (K : PySem.W.Frag) (n : Nat) (t : TE') : TE := fun σ H Q2 => ∃ W Hi Γ Q, Good K n W Hi Γ σ H ∧ t Γ Q ∧ ∀ v H', PostE K n W Hi σ Q v H' → Q2 v H'
def ttOf (K : PySem.W.Frag) (n : Nat) (t : TT') : TT := fun σ H Q2 => ∃ W Hi Γ Q, Good K n W Hi Γ σ H ∧ t Γ Q ∧ ∀ b H' Hi' Γ', Same Hi Hi' → Good K n W Hi' Γ' σ H' → Q b Γ' → Q2 b H'
def taOf (K : PySem.W.Frag) (n : Nat) (t : TA') : TA := fun σ H Q2 => ∃ W Hi Γ Q, Good K n W Hi Γ σ H ∧ t Γ Q ∧ ∀ vs H' Hi' Γ' ds, Same Hi Hi' → Good K n W Hi' Γ' σ H' → DenL K Hi' vs ds → Q ds Γ' → Q2 vs H'
/-- a new thing at a, which nobody else has -/
structure New (K : PySem.W.Frag) (n : Nat) (W : Wd) (Hi : Hp) (Γ : Sts) (σ : St) (H : Hp) (a : Addr) (o : OD) : Prop where
  hi : Hi a = none
  h0 : W.H₀ a = none
  ne : ∀ (j : Nat) o', Γ[j]? = some (.own o') → adr n W σ j ≠ some a
  own : OwnAt K Hi H a o
def oOf (K : PySem.W.Frag) (n : Nat) (t : TO') : TE := fun σ H Q2 => ∃ W Hi Γ Q, Good K n W Hi Γ σ H ∧ t Γ Q ∧ ∀ a H' Hi' Γ' o, Same Hi Hi' → Good K n W Hi' Γ' σ H' → New K n W Hi' Γ' σ H' a o → Q o Γ' → Q2 (.ref a) H'
def gOf (K : PySem.W.Frag) (n : Nat) (g : TG') : TG := fun v σ H Q2 => ∃ W Hi Γ d Q, Good K n W Hi Γ σ H ∧ Den K Hi v d ∧ g d Γ Q ∧ ∀ σ' H' Hi' Γ', Same Hi Hi' → Good K n W Hi' Γ' σ' H' → Q Γ' → Q2 σ' H'
def ResOk (K : PySem.W.Frag) (H₀ Hi H : Hp) (v : V) : Res → Prop
  | .val d => Den K Hi v d
  | .own o => ∃ a, v = .ref a ∧ Hi a = none ∧ H₀ a = none ∧ OwnAt K Hi H a o
structure Lifts (K : PySem.W.Frag) (n : Nat) (W : Wd) (Hi : Hp) (N : Ends') (N2 : Ends) : Prop where
  nx : ∀ σ' H' Hi' Γ', Same Hi Hi' → Good K n W Hi' Γ' σ' H' → N.nx Γ' → N2.nx σ' H'
  bk : ∀ σ' H' Hi' Γ', Same Hi Hi' → Good K n W Hi' Γ' σ' H' → N.bk Γ' → N2.bk σ' H'
  ct : ∀ σ' H' Hi' Γ', Same Hi Hi' → Good K n W Hi' Γ' σ' H' → N.ct Γ' → N2.ct σ' H'
  rt : ∀ v σ' H' Hi' Γ' r, Same Hi Hi' → Good K n W Hi' Γ' σ' H' → ResOk K W.H₀ Hi' H' v r → N.rt r Γ' → N2.rt v H'
theorem Lifts.mono {K : PySem.W.Frag} {n : Nat} {W : Wd} {Hi Hi' : Hp} {N : Ends'} {N2 : Ends} (l : Lifts K n W Hi N N2) (s : Same Hi Hi') : Lifts K n W Hi' N N2 :=
  ⟨fun σ' H' Hi2 Γ' e => l.nx σ' H' Hi2 Γ' (s.trans e), fun σ' H' Hi2 Γ' e => l.bk σ' H' Hi2 Γ' (s.trans e), fun σ' H' Hi2 Γ' e => l.ct σ' H' Hi2 Γ' (s.trans e), fun v σ' H' Hi2 Γ' r e => l.rt v σ' H' Hi2 Γ' r (s.trans e)⟩
def sOf (K : PySem.W.Frag) (n : Nat) (t : TS') : TS := fun N2 σ H => ∃ W Hi Γ N, Good K n W Hi Γ σ H ∧ t N Γ ∧ Lifts K n W Hi N N2
/-- the walk J goes over the data ds -/
def ItD (K : PySem.W.Frag) (Hi : Hp) (J : It) (ds : List D) : Prop := ∀ Hi' H', Same Hi Hi' → Fz Hi' H' →
  (∀ (i : Nat) d, ds[i]? = some d → J.go i H' ∧ ∀ x H'', J.yld i H' x H'' → ∃ Hi'', Ext Hi' H' Hi'' H'' ∧ Den K Hi'' x d) ∧ J.stop ds.length H'
def iOf (K : PySem.W.Frag) (n : Nat) (t : TI') : TI := fun σ H R => ∃ W Hi Γ Q, Good K n W Hi Γ σ H ∧ t Γ Q ∧ ∀ J H' Hi' Γ' ds, Same Hi Hi' → Good K n W Hi' Γ' σ H' → ItD K Hi' J ds → Q ds Γ' → R J H'

structure PE' (X : Cx) (e : Expr) (t : TE') : Prop where
  h : PE X e (tOf X.K X.N.length t)
structure PO' (X : Cx) (e : Expr) (t : TO') : Prop where
  h : PE X e (oOf X.K X.N.length t)
structure PT' (X : Cx) (e : Expr) (t : TT') : Prop where
  h : PT X e (ttOf X.K X.N.length t)
structure PW' (X : Cx) (e : Expr) (t : TT') : Prop where
  h : PW X e (ttOf X.K X.N.length t)
def isStar : Expr → Bool
  | .Starred _ _ => true
  | _ => false
def plainE : List Expr → Bool
  | [] => true
  | e :: es => !isStar e && plainE es
theorem star_of {e : Expr} {es : List Expr} {env : Env} (h : isStar e = false) : starEach (e :: es) env = (false, eval e env) :: starEach es env := by
  cases e <;> first | rfl | (exact absurd (show true = false from h) Bool.noConfusion)
theorem plain_any {pos : Pos} {env : Env} : ∀ {es : List Expr}, plainE es = true → (backTo pos (starEach es env)).any (·.1) = false
  | [], _ => rfl
  | e :: es, h => by
    have h1 : isStar e = false ∧ plainE es = true := by
      unfold plainE at h
      simpa using h
    rw [star_of h1.1]
    show (false || (backTo pos (starEach es env)).any (·.1)) = false
    rw [plain_any h1.2]
    rfl
theorem plain_cons {e : Expr} {es : List Expr} (h : plainE (e :: es) = true) : isStar e = false ∧ plainE es = true := by
  unfold plainE at h
  simpa using h
structure PA' (X : Cx) (es : List Expr) (t : TA') : Prop where
  pa : PA X es (taOf X.K X.N.length t)
  pl : plainE es = true
structure PS' (X : Cx) (s : Stmt) (t : TS') : Prop where
  h : PS X s (sOf X.K X.N.length t)
structure PSs' (X : Cx) (s : List Stmt) (t : TS') : Prop where
  h : PSs X s (sOf X.K X.N.length t)
structure PG' (X : Cx) (tg : Expr) (g : TG') : Prop where
  h : PG X tg (gOf X.K X.N.length g)
structure PI' (X : Cx) (tg iter : Expr) (t : TI') : Prop where
  h : PI X tg iter (iOf X.K X.N.length t)

section
variable {X : Cx}
theorem PE.weak {e : Expr} {t t2 : TE} (h : PE X e t) (w : ∀ σ H Q, t2 σ H Q → t σ H Q) : PE X e t2 := fun pins s σ H Q I q => h pins s σ H Q I (w _ _ _ q)
theorem PT.weak {e : Expr} {t t2 : TT} (h : PT X e t) (w : ∀ σ H Q, t2 σ H Q → t σ H Q) : PT X e t2 := fun pins s σ H Q I q => h pins s σ H Q I (w _ _ _ q)
theorem PW.weak {e : Expr} {t t2 : TT} (h : PW X e t) (w : ∀ σ H Q, t2 σ H Q → t σ H Q) : PW X e t2 := fun wh pins s σ H Q I q => h wh pins s σ H Q I (w _ _ _ q)
theorem PA.weak {es : List Expr} {t t2 : TA} (h : PA X es t) (w : ∀ σ H Q, t2 σ H Q → t σ H Q) : PA X es t2 := fun pos pins s σ H Q I q => h pos pins s σ H Q I (w _ _ _ q)
theorem PS.weak {st : Stmt} {t t2 : TS} (h : PS X st t) (w : ∀ N σ H, t2 N σ H → t N σ H) : PS X st t2 := fun pins s σ H N I q => h pins s σ H N I (w _ _ _ q)
theorem PSs.weak {st : List Stmt} {t t2 : TS} (h : PSs X st t) (w : ∀ N σ H, t2 N σ H → t N σ H) : PSs X st t2 := fun pins s σ H N I q => h pins s σ H N I (w _ _ _ q)
theorem PG.weak {tg : Expr} {t t2 : TG} (h : PG X tg t) (w : ∀ v σ H Q, t2 v σ H Q → t v σ H Q) : PG X tg t2 := fun pins s σ H v u Q I r q => h pins s σ H v u Q I r (w _ _ _ _ q)
theorem PI.weak {tg iter : Expr} {t t2 : TI} (h : PI X tg iter t) (w : ∀ σ H Q, t2 σ H Q → t σ H Q) : PI X tg iter t2 := fun pins s σ H Q I q => h pins s σ H Q I (w _ _ _ q)

/-! ### names and constants -/
def tVar' (i : Nat) : TE' := fun Γ Q => ∃ d, Γ[i]? = some (.val d) ∧ Q d Γ
def tC' (d : D) : TE' := fun Γ Q => Q d Γ
theorem pv' (i : Nat) {x : Str} {pos : Pos} (hN : X.N[i]? = some x := by rfl) (hv : Vis X.env.scope x := by first | exact Or.inl rfl | exact Or.inr (Or.inl rfl) | exact Or.inr (Or.inr rfl)) (hd : (x == ("__debug__" : Str)) = false := by decide)
    (hcd : (x == ("__classdict__" : Str)) = false := by decide) : PE' X (.Name x pos) (tVar' i) := by
  refine ⟨PE.weak (pe_var (i := i) hN hv hd hcd) ?_⟩
  rintro σ H Q ⟨W, Hi, Γ, Q', g, ⟨d, e, q⟩, fin⟩
  obtain ⟨v, h1, h2⟩ := g.val i d e
  exact ⟨v, h1, fin v H ⟨Hi, d, Γ, Same.refl _, g, h2, q⟩⟩
theorem pe_c' {e : Expr} {v : V} {d : D} (h : PE X e (tC v)) (r : ∀ Hi, Den X.K Hi v d) : PE' X e (tC' d) := by
  refine ⟨PE.weak h ?_⟩
  rintro σ H Q ⟨W, Hi, Γ, Q', g, q, fin⟩
  exact fin v H ⟨Hi, d, Γ, Same.refl _, g, r Hi, q⟩
theorem pe_int' {i j pos} : PE' X (.Constant (.int i) j pos) (tC' (.int i)) := pe_c' pe_int fun _ => .int i
theorem pe_bl' {b j pos} : PE' X (.Constant (.bool b) j pos) (tC' (.bl b)) := pe_c' pe_bl fun _ => .bl b
theorem pe_str' (l : List Nat) {x j pos} (h : x = st l := by decide +kernel) : PE' X (.Constant (.str x) j pos) (tC' (.str l)) := by
  subst h
  exact pe_c' pe_str fun _ => .str l
/-- a global name that stands for a plain value -/
theorem pe_g' {x : Str} {v : V} {u : Value} {d : D} {pos : Pos} (hm : X.mg x = some u) (r : RelV v u) (rd : ∀ Hi, Den X.K Hi v d) (hg : Gl X x := by rfl) (hd : (x == ("__debug__" : Str)) = false := by decide) : PE' X (.Name x pos) (tC' d) := pe_c' (pe_glob hg hm r hd) rd
theorem pe_gs' {x : Str} {l : List Nat} {t : Tok} {pos : Pos} (hm : X.mg x = some (.str (st l) t)) (hg : Gl X x := by rfl) (hd : (x == ("__debug__" : Str)) = false := by decide) : PE' X (.Name x pos) (tC' (.str l)) := pe_g' (v := .str (st l)) hm ⟨_, rfl⟩ (fun _ => .str l) hg hd
/-- a built-in type as a value -/
theorem pe_ty' {x : Str} {c : String} {pos : Pos} (hm : X.mg x = none) (hv : bootBuiltins x = some (.type c)) (hg : Gl X x := by rfl) (hn : x ≠ "__name__" := by decide) (hd : (x == ("__debug__" : Str)) = false := by decide) : PE' X (.Name x pos) (tC' (.ty c)) :=
  pe_c' (pe_bltn (v := .ty c) hg hm hv rfl hn hd) fun _ => .ty c
/-- a thing of one's own, frozen -/
def tFrz (t : TO') : TE' := fun Γ Q => t Γ fun o Γ1 => Q o.toD Γ1
theorem pe_frz {e : Expr} {t : TO'} (h : PO' X e t) : PE' X e (tFrz t) := by
  refine ⟨PE.weak h.h ?_⟩
  rintro σ H Q ⟨W, Hi, Γ, Q', g, q, fin⟩
  refine ⟨W, Hi, Γ, _, g, q, ?_⟩
  intro a H' Hi' Γ' o s1 g1 nw q1
  obtain ⟨u, hu⟩ := nw.own.there
  exact fin _ _ ⟨upd Hi' a u, _, Γ', s1.trans (same_upd nw.hi u), g1.freezeA nw.hi nw.h0 nw.ne hu, nw.own.den nw.hi hu, q1⟩

/-! ### two-place operations -/
abbrev R2' := D → D → (D → Prop) → Prop
def Lift2 (K : PySem.W.Frag) (r : R2) (r' : R2') : Prop := ∀ (Hi H : Hp) (x y : V) (dx dy : D) (Q : D → Prop) (Q2 : VK), Fz Hi H → Den K Hi x dx → Den K Hi y dy → r' dx dy Q → (∀ Hi' H' v d, Ext Hi H Hi' H' → Den K Hi' v d → Q d → Q2 v H') → r x y H Q2
def tOp' (r : R2') (ta tb : TE') : TE' := fun Γ Q => ta Γ fun x Γ1 => tb Γ1 fun y Γ2 => r x y fun d => Q d Γ2
theorem tOp_of {K : PySem.W.Frag} {n : Nat} {r : R2} {r' : R2'} {ta tb : TE'} {σ : St} {H : Hp} {Q : VK} (l : Lift2 K r r') (h : tOf K n (tOp' r' ta tb) σ H Q) : tOp r (tOf K n ta) (tOf K n tb) σ H Q := by
  obtain ⟨W, Hi, Γ, Q', g, h, fin⟩ := h
  refine ⟨W, Hi, Γ, _, g, h, ?_⟩
  rintro x H1 ⟨Hi1, dx, Γ1, s1, g1, den1, h1⟩
  refine ⟨W, Hi1, Γ1, _, g1, h1, ?_⟩
  rintro y H2 ⟨Hi2, dy, Γ2, s2, g2, den2, h2⟩
  refine l Hi2 H2 x y dx dy _ _ g2.fz (den1.mono s2) den2 h2 ?_
  rintro Hi3 H3 v d e den q
  exact fin v H3 ⟨Hi3, d, Γ2, s1.trans (s2.trans e.hi), g2.ext e, den, q⟩
structure Op2 (X : Cx) (f : Value → Value → Sem Value) (r' : R2') : Prop where
  ex : ∃ r, OpR X f r ∧ Lift2 X.K r r'
theorem Op2.or {f : Value → Value → Sem Value} {r r' : R2'} (h : Op2 X f r) (h' : Op2 X f r') : Op2 X f (fun x y Q => r x y Q ∨ r' x y Q) := by
  obtain ⟨a, ha, la⟩ := h.ex
  obtain ⟨b, hb, lb⟩ := h'.ex
  refine ⟨_, ha.or hb, fun Hi H x y dx dy Q Q2 s d1 d2 q fin => ?_⟩
  rcases q with q | q
  · exact .inl (la Hi H x y dx dy Q Q2 s d1 d2 q fin)
  · exact .inr (lb Hi H x y dx dy Q Q2 s d1 d2 q fin)
theorem pe_op' {a b : Expr} {op : Operator} {r' : R2'} {ta tb : TE'} {pos : Pos} (h : Op2 X (binaryOp op) r') (ha : PE' X a ta) (hb : PE' X b tb) : PE' X (.BinOp a op b pos) (tOp' r' ta tb) := by
  obtain ⟨r, ho, l⟩ := h.ex
  exact ⟨PE.weak (pe_op ho ha.h hb.h) fun σ H Q q => tOp_of l q⟩
theorem pe_cmp' {a b : Expr} {op : CmpOp} {r' : R2'} {ta tb : TE'} {pos : Pos} (h : Op2 X (compareOp op) r') (ha : PE' X a ta) (hb : PE' X b tb) (hm : behindInMarks op b = false := by first | exact nomark _ | rfl) : PE' X (.Compare a [op] [b] pos) (tOp' r' ta tb) := by
  obtain ⟨r, ho, l⟩ := h.ex
  exact ⟨PE.weak (pe_cmpR ho ha.h hb.h hm) fun σ H Q q => tOp_of l q⟩
/-- a value as a test -/
def tB' (t : TE') : TT' := fun Γ Q => t Γ fun d Γ1 => ∃ b, d = .bl b ∧ Q b Γ1
theorem tB_of {K : PySem.W.Frag} {n : Nat} {t : TE'} {σ : St} {H : Hp} {Q : Bool → Hp → Prop} (h : ttOf K n (tB' t) σ H Q) : tOf K n t σ H fun x H1 => ∃ c, x = .bl c ∧ Q c H1 := by
  obtain ⟨W, Hi, Γ, Q', g, h, fin⟩ := h
  refine ⟨W, Hi, Γ, _, g, h, ?_⟩
  rintro x H1 ⟨Hi1, dx, Γ1, s1, g1, den1, b, rfl, h1⟩
  exact ⟨b, den1.blI, fin b H1 Hi1 Γ1 s1 g1 h1⟩
theorem pt_val' {e : Expr} {t : TE'} (h : PE' X e t) (he : ∀ whole, isTrue e X.env whole = (do let v ← whole; standAt e.pos; holding [v] (truthy v)) := by intro _; rfl) : PT' X e (tB' t) :=
  ⟨PT.weak (pt_val h.h he) fun σ H Q q => tB_of q⟩
theorem pt_cmp' {a b : Expr} {op : CmpOp} {r' : R2'} {ta tb : TE'} {pos : Pos} (h : Op2 X (compareOp op) r') (ha : PE' X a ta) (hb : PE' X b tb) (hm : behindInMarks op b = false := by first | exact nomark _ | rfl) : PT' X (.Compare a [op] [b] pos) (tB' (tOp' r' ta tb)) := by
  obtain ⟨r, ho, l⟩ := h.ex
  exact ⟨PT.weak (pt_cmpR ho ha.h hb.h hm) fun σ H Q q => tOp_of l (tB_of q)⟩
/-! ### and, or, not, if -/
def tAnd' (t u : TT') : TT' := fun Γ Q => t Γ fun c Γ1 => if c = true then u Γ1 Q else Q false Γ1
def tOr' (t u : TT') : TT' := fun Γ Q => t Γ fun c Γ1 => if c = true then Q true Γ1 else u Γ1 Q
def tNot' (t : TT') : TT' := fun Γ Q => t Γ fun c Γ1 => Q (!c) Γ1
variable {a b c : Expr} {tA tB2 : TT'} {rest : List Expr} {pos : Pos} {ta tb : TE'}
theorem pw_and1' (ha : PT' X a tA) : PW' X (.BoolOp .And [a] pos) tA := ⟨pw_and1 ha.h⟩
theorem pw_or1' (ha : PT' X a tA) : PW' X (.BoolOp .Or [a] pos) tA := ⟨pw_or1 ha.h⟩
theorem pw_and' (ha : PT' X a tA) (hb : PW' X (.BoolOp .And (b :: rest) pos) tB2) : PW' X (.BoolOp .And (a :: b :: rest) pos) (tAnd' tA tB2) := by
  refine ⟨PW.weak (pw_and ha.h hb.h) ?_⟩
  rintro σ H Q ⟨W, Hi, Γ, Q', g, h, fin⟩
  refine ⟨W, Hi, Γ, _, g, h, ?_⟩
  intro k H1 Hi1 Γ1 s1 g1 h1
  cases k with
  | true => exact ⟨W, Hi1, Γ1, _, g1, h1, fun b H2 Hi2 Γ2 s2 g2 q => fin b H2 Hi2 Γ2 (s1.trans s2) g2 q⟩
  | false => exact fin false H1 Hi1 Γ1 s1 g1 h1
theorem pw_or' (ha : PT' X a tA) (hb : PW' X (.BoolOp .Or (b :: rest) pos) tB2) : PW' X (.BoolOp .Or (a :: b :: rest) pos) (tOr' tA tB2) := by
  refine ⟨PW.weak (pw_or ha.h hb.h) ?_⟩
  rintro σ H Q ⟨W, Hi, Γ, Q', g, h, fin⟩
  refine ⟨W, Hi, Γ, _, g, h, ?_⟩
  intro k H1 Hi1 Γ1 s1 g1 h1
  cases k with
  | false => exact ⟨W, Hi1, Γ1, _, g1, h1, fun b H2 Hi2 Γ2 s2 g2 q => fin b H2 Hi2 Γ2 (s1.trans s2) g2 q⟩
  | true => exact fin true H1 Hi1 Γ1 s1 g1 h1
theorem PW'.pt {e : Expr} {t : TT'} (h : PW' X e t) : PT' X e t := ⟨h.h _⟩
theorem pt_not' (ha : PT' X a tA) : PT' X (.UnaryOp .Not a pos) (tNot' tA) := by
  refine ⟨PT.weak (pt_not ha.h) ?_⟩
  rintro σ H Q ⟨W, Hi, Γ, Q', g, h, fin⟩
  exact ⟨W, Hi, Γ, _, g, h, fun k H1 Hi1 Γ1 s1 g1 h1 => fin _ H1 Hi1 Γ1 s1 g1 h1⟩
def tAndV' (ta tb : TE') : TE' := fun Γ Q => ta Γ fun x Γ1 => ∃ c, x = .bl c ∧ if c = true then tb Γ1 Q else Q (.bl false) Γ1
def tOrV' (ta tb : TE') : TE' := fun Γ Q => ta Γ fun x Γ1 => ∃ c, x = .bl c ∧ if c = true then Q (.bl true) Γ1 else tb Γ1 Q
def tNotV' (ta : TE') : TE' := fun Γ Q => ta Γ fun x Γ1 => ∃ c, x = .bl c ∧ Q (.bl (!c)) Γ1
theorem pe_one' {op} (h : PE' X a ta) : PE' X (.BoolOp op [a] pos) ta := ⟨pe_one h.h⟩
theorem pe_and' (ha : PE' X a ta) (hb : PE' X (.BoolOp .And (b :: rest) pos) tb) : PE' X (.BoolOp .And (a :: b :: rest) pos) (tAndV' ta tb) := by
  refine ⟨PE.weak (pe_and ha.h hb.h) ?_⟩
  rintro σ H Q ⟨W, Hi, Γ, Q', g, h, fin⟩
  refine ⟨W, Hi, Γ, _, g, h, ?_⟩
  rintro x H1 ⟨Hi1, dx, Γ1, s1, g1, den1, k, rfl, h1⟩
  refine ⟨k, den1.blI, ?_⟩
  cases k with
  | true => exact ⟨W, Hi1, Γ1, _, g1, h1, fun v H2 ⟨Hi2, d, Γ2, s2, g2, d2, q⟩ => fin v H2 ⟨Hi2, d, Γ2, s1.trans s2, g2, d2, q⟩⟩
  | false => exact fin _ H1 ⟨Hi1, _, Γ1, s1, g1, .bl false, h1⟩
theorem pe_or' (ha : PE' X a ta) (hb : PE' X (.BoolOp .Or (b :: rest) pos) tb) : PE' X (.BoolOp .Or (a :: b :: rest) pos) (tOrV' ta tb) := by
  refine ⟨PE.weak (pe_or ha.h hb.h) ?_⟩
  rintro σ H Q ⟨W, Hi, Γ, Q', g, h, fin⟩
  refine ⟨W, Hi, Γ, _, g, h, ?_⟩
  rintro x H1 ⟨Hi1, dx, Γ1, s1, g1, den1, k, rfl, h1⟩
  refine ⟨k, den1.blI, ?_⟩
  cases k with
  | false => exact ⟨W, Hi1, Γ1, _, g1, h1, fun v H2 ⟨Hi2, d, Γ2, s2, g2, d2, q⟩ => fin v H2 ⟨Hi2, d, Γ2, s1.trans s2, g2, d2, q⟩⟩
  | true => exact fin _ H1 ⟨Hi1, _, Γ1, s1, g1, .bl true, h1⟩
theorem pe_not' (ha : PE' X a ta) : PE' X (.UnaryOp .Not a pos) (tNotV' ta) := by
  refine ⟨PE.weak (pe_not ha.h) ?_⟩
  rintro σ H Q ⟨W, Hi, Γ, Q', g, h, fin⟩
  refine ⟨W, Hi, Γ, _, g, h, ?_⟩
  rintro x H1 ⟨Hi1, dx, Γ1, s1, g1, den1, k, rfl, h1⟩
  exact ⟨k, den1.blI, fin _ H1 ⟨Hi1, _, Γ1, s1, g1, .bl _, h1⟩⟩
def tIf' (t : TT') (ta tb : TE') : TE' := fun Γ Q => t Γ fun c Γ1 => if c = true then ta Γ1 Q else tb Γ1 Q
/-! ### argument lists, displays -/
def tNil' : TA' := fun Γ Q => Q [] Γ
def tCons' (ta : TE') (tr : TA') : TA' := fun Γ Q => ta Γ fun x Γ1 => tr Γ1 fun xs Γ2 => Q (x :: xs) Γ2
theorem pa_nil' : PA' X [] tNil' := by
  refine ⟨PA.weak pa_nil ?_, rfl⟩
  rintro σ H Q ⟨W, Hi, Γ, Q', g, h, fin⟩
  exact fin [] H Hi Γ [] (Same.refl _) g .nil h
theorem pa_cons' {e : Expr} {es : List Expr} {te : TE'} {t : TA'} (ha : PE' X e te) (hr : PA' X es t) (hs : isStar e = false := by rfl) : PA' X (e :: es) (tCons' te t) := by
  refine ⟨PA.weak (pa_cons ha.h hr.pa (star_of hs)) ?_, by unfold plainE; rw [hs, hr.pl]; rfl⟩
  rintro σ H Q ⟨W, Hi, Γ, Q', g, h, fin⟩
  refine ⟨W, Hi, Γ, _, g, h, ?_⟩
  rintro x H1 ⟨Hi1, dx, Γ1, s1, g1, den1, h1⟩
  refine ⟨W, Hi1, Γ1, _, g1, h1, ?_⟩
  intro vs H2 Hi2 Γ2 ds s2 g2 dl q
  exact fin (x :: vs) H2 Hi2 Γ2 (dx :: ds) (s1.trans s2) g2 (.cons (den1.mono s2) dl) q
def tTup' (t : TA') : TE' := fun Γ Q => t Γ fun ds Γ1 => ds.length ≤ sizeLine ∧ Q (.tup ds) Γ1
theorem pe_tup' {es : List Expr} {t : TA'} {x1} (h : PA' X es t) : PE' X (.Tuple es x1 pos) (tTup' t) := by
  refine ⟨PE.weak (pe_tup h.pa) ?_⟩
  rintro σ H Q ⟨W, Hi, Γ, Q', g, h, fin⟩
  refine ⟨W, Hi, Γ, _, g, h, ?_⟩
  rintro vs H1 Hi1 Γ1 ds s1 g1 dl ⟨hl, q⟩
  refine ⟨by rw [paired_len dl]; exact hl, fun p hp => ?_⟩
  have e := Ext.new g1.fz hp (.tup vs)
  exact fin _ _ ⟨_, _, Γ1, s1.trans e.hi, g1.ext e, Den.mkT upd_same (dl.mono e.hi), q⟩
/-- a new thing that the heap got at p -/
theorem New.mk' {K : PySem.W.Frag} {n : Nat} {W : Wd} {Hi H : Hp} {Γ : Sts} {σ : St} {p : Addr} {u : HO} {o : OD} (g : Good K n W Hi Γ σ H) (hp : H p = none) (own : OwnAt K Hi (upd H p u) p o) : New K n W Hi Γ σ (upd H p u) p o := by
  refine ⟨g.sub.free hp, ?_, fun j o' e z => ?_, own⟩
  · cases q : W.H₀ p with
    | none => rfl
    | some w =>
      obtain ⟨w', hw⟩ := g.there p w q
      rw [hp] at hw; cases hw
  · obtain ⟨a, h1, _, _, h4⟩ := g.own j o' e
    rw [z] at h1
    cases h1
    obtain ⟨w, hw⟩ := h4.there
    rw [hp] at hw; cases hw
def tLst' (t : TA') : TO' := fun Γ Q => t Γ fun ds Γ1 => ds.length ≤ sizeLine ∧ Q (.lst ds) Γ1
theorem po_lst {es : List Expr} {t : TA'} (h : PA' X es t) : PO' X (.List es pos) (tLst' t) := by
  refine ⟨PE.weak (pe_lst h.pa) ?_⟩
  rintro σ H Q ⟨W, Hi, Γ, Q', g, h, fin⟩
  refine ⟨W, Hi, Γ, _, g, h, ?_⟩
  rintro vs H1 Hi1 Γ1 ds s1 g1 dl ⟨hl, q⟩
  refine ⟨by rw [paired_len dl]; exact hl, fun p hp => ?_⟩
  exact fin p _ Hi1 Γ1 (.lst ds) s1 (g1.ext (Ext.newO g1.fz hp _ (fun _ z => by cases z))) (New.mk' g1 hp ⟨vs, upd_same, dl⟩) q
/-! ### calls by value: builtins, types, methods -/
abbrev RC' := List D → (D → Prop) → Prop
def LiftC (K : PySem.W.Frag) (r : List V → Hp → VK → Prop) (r' : RC') : Prop := ∀ (Hi H : Hp) (vs : List V) (ds : List D) (Q : D → Prop) (Q2 : VK), Fz Hi H → DenL K Hi vs ds → r' ds Q → (∀ Hi' H' v d, Ext Hi H Hi' H' → Den K Hi' v d → Q d → Q2 v H') → r vs H Q2
structure Cal (X : Cx) (f : Value) (r' : RC') : Prop where
  ex : ∃ r, CallR X f r ∧ LiftC X.K r r'
theorem Cal.or {f : Value} {r r' : RC'} (h : Cal X f r) (h' : Cal X f r') : Cal X f (fun x Q => r x Q ∨ r' x Q) := by
  obtain ⟨a, ha, la⟩ := h.ex
  obtain ⟨b, hb, lb⟩ := h'.ex
  refine ⟨_, ha.or hb, fun Hi H vs ds Q Q2 s d q fin => ?_⟩
  rcases q with q | q
  · exact .inl (la Hi H vs ds Q Q2 s d q fin)
  · exact .inr (lb Hi H vs ds Q Q2 s d q fin)
def tCB' (r : RC') (t : TA') : TE' := fun Γ Q => t Γ fun ds Γ1 => r ds fun d => Q d Γ1
theorem tCB_of {K : PySem.W.Frag} {n : Nat} {r : List V → Hp → VK → Prop} {r' : RC'} {t : TA'} {σ : St} {H : Hp} {Q : VK} (l : LiftC K r r') (h : tOf K n (tCB' r' t) σ H Q) : tCB r (taOf K n t) σ H Q := by
  obtain ⟨W, Hi, Γ, Q', g, h, fin⟩ := h
  refine ⟨W, Hi, Γ, _, g, h, ?_⟩
  intro vs H1 Hi1 Γ1 ds s1 g1 dl h1
  refine l Hi1 H1 vs ds _ _ g1.fz dl h1 ?_
  intro Hi2 H2 v d e den q
  exact fin v H2 ⟨Hi2, d, Γ1, s1.trans e.hi, g1.ext e, den, q⟩
variable {x : Str} {p : Pos} {e : Expr} {es : List Expr} {t : TA'} {id T : String}
theorem pe_callB' {r' : RC'} (hc : Cal X (.builtin id) r') (hm : X.mg x = none) (hv : bootBuiltins x = some (.builtin id)) (ha : PA' X (e :: es) t) (hg : Gl X x := by rfl) (hn : x ≠ "__name__" := by decide) (hdb : (x == ("__debug__" : Str)) = false := by decide) : PE' X (.Call (.Name x p) (e :: es) [] pos) (tCB' r' t) := by
  obtain ⟨r, ho, l⟩ := hc.ex
  obtain ⟨p1, p2⟩ := plain_cons ha.pl
  exact ⟨PE.weak (pe_callB ho hg hm hv ha.pa hn hdb (star_of p1) (plain_any p2)) fun σ H Q q => tCB_of l q⟩
theorem pe_callTy' {r' : RC'} (hc : Cal X (.type T) r') (hm : X.mg x = none) (hv : bootBuiltins x = some (.type T)) (ha : PA' X (e :: es) t) (hg : Gl X x := by rfl) (hn : x ≠ "__name__" := by decide) (hdb : (x == ("__debug__" : Str)) = false := by decide) : PE' X (.Call (.Name x p) (e :: es) [] pos) (tCB' r' t) := by
  obtain ⟨r, ho, l⟩ := hc.ex
  obtain ⟨p1, p2⟩ := plain_cons ha.pl
  exact ⟨PE.weak (pe_callTy ho hg hm hv ha.pa hn hdb (star_of p1) (plain_any p2)) fun σ H Q q => tCB_of l q⟩
end
end PL

namespace PL
open PySem L2

section
variable {X : Cx} {a b c : Expr} {pos : Pos} {ta tb : TE'}
/-! ### subscripts -/
structure Ixs (X : Cx) (r' : R2') : Prop where
  ex : ∃ r, IxR X r ∧ Lift2 X.K r r'
theorem Ixs.or {r r' : R2'} (h : Ixs X r) (h' : Ixs X r') : Ixs X (fun x y Q => r x y Q ∨ r' x y Q) := by
  obtain ⟨a, ha, la⟩ := h.ex
  obtain ⟨b, hb, lb⟩ := h'.ex
  refine ⟨_, ha.or hb, fun Hi H x y dx dy Q Q2 s d1 d2 q fin => ?_⟩
  rcases q with q | q
  · exact .inl (la Hi H x y dx dy Q Q2 s d1 d2 q fin)
  · exact .inr (lb Hi H x y dx dy Q Q2 s d1 d2 q fin)
theorem pe_ix' {r' : R2'} (h : Ixs X r') (ha : PE' X a ta) (hb : PE' X b tb) (hs : PlainIx b := by intro _ _; rfl) : PE' X (.Subscript a b pos) (tOp' r' ta tb) := by
  obtain ⟨r, ho, l⟩ := h.ex
  exact ⟨PE.weak (pe_ix ho ha.h hb.h hs) fun σ H Q q => tOp_of l q⟩
abbrev TP' := Sts → (Option Int → Sts → Prop) → Prop
def toOf (K : PySem.W.Frag) (n : Nat) (t : TP') : TO := fun σ H Q2 => ∃ W Hi Γ Q, Good K n W Hi Γ σ H ∧ t Γ Q ∧ ∀ i H' Hi' Γ', Same Hi Hi' → Good K n W Hi' Γ' σ H' → Q i Γ' → Q2 i H'
structure PB' (X : Cx) (e : Option Expr) (t : TP') : Prop where
  h : PO X e (toOf X.K X.N.length t)
def tNoB' : TP' := fun Γ Q => Q none Γ
def tB1' (t : TE') : TP' := fun Γ Q => t Γ fun d Γ1 => ∃ i, d = .int i ∧ Q (some i) Γ1
theorem PO.weak {e : Option Expr} {t t2 : TO} (h : PO X e t) (w : ∀ σ H Q, t2 σ H Q → t σ H Q) : PO X e t2 := fun pins s σ H Q I q => h pins s σ H Q I (w _ _ _ q)
theorem pb_no : PB' X none tNoB' := by
  refine ⟨PO.weak po_none ?_⟩
  rintro σ H Q ⟨W, Hi, Γ, Q', g, h, fin⟩
  exact fin none H Hi Γ (Same.refl _) g h
theorem pb_at {e : Expr} {te : TE'} (h : PE' X e te) : PB' X (some e) (tB1' te) := by
  refine ⟨PO.weak (po_some h.h) ?_⟩
  rintro σ H Q ⟨W, Hi, Γ, Q', g, h, fin⟩
  refine ⟨W, Hi, Γ, _, g, h, ?_⟩
  rintro v H1 ⟨Hi1, d, Γ1, s1, g1, den, i, rfl, q⟩
  exact ⟨i, den.intI, fin _ H1 Hi1 Γ1 s1 g1 q⟩
abbrev RS' := D → Option Int → Option Int → (D → Prop) → Prop
def LiftS (K : PySem.W.Frag) (r : V → Option Int → Option Int → Hp → VK → Prop) (r' : RS') : Prop := ∀ (Hi H : Hp) (x : V) (dx : D) (lo hi : Option Int) (Q : D → Prop) (Q2 : VK), Fz Hi H → Den K Hi x dx → r' dx lo hi Q → (∀ Hi' H' v d, Ext Hi H Hi' H' → Den K Hi' v d → Q d → Q2 v H') → r x lo hi H Q2
structure Sli (X : Cx) (r' : RS') : Prop where
  ex : ∃ r, SlR X r ∧ LiftS X.K r r'
theorem Sli.or {r r' : RS'} (h : Sli X r) (h' : Sli X r') : Sli X (fun x lo hi Q => r x lo hi Q ∨ r' x lo hi Q) := by
  obtain ⟨a, ha, la⟩ := h.ex
  obtain ⟨b, hb, lb⟩ := h'.ex
  refine ⟨_, ha.or hb, fun Hi H x dx lo hi Q Q2 s d1 q fin => ?_⟩
  rcases q with q | q
  · exact .inl (la Hi H x dx lo hi Q Q2 s d1 q fin)
  · exact .inr (lb Hi H x dx lo hi Q Q2 s d1 q fin)
def tSl' (r : RS') (te : TE') (tl th : TP') : TE' := fun Γ Q => te Γ fun x Γ1 => tl Γ1 fun l Γ2 => th Γ2 fun u Γ3 => r x l u fun d => Q d Γ3
theorem pe_sl' {e : Expr} {lo hi : Option Expr} {p2 : Pos} {te : TE'} {tl th : TP'} {r' : RS'} (h : Sli X r') (he : PE' X e te) (hl : PB' X lo tl) (hu : PB' X hi th) : PE' X (.Subscript e (.Slice lo hi none p2) pos) (tSl' r' te tl th) := by
  obtain ⟨r, ho, l⟩ := h.ex
  refine ⟨PE.weak (pe_slice ho he.h hl.h hu.h) ?_⟩
  rintro σ H Q ⟨W, Hi, Γ, Q', g, h, fin⟩
  refine ⟨W, Hi, Γ, _, g, h, ?_⟩
  rintro x H1 ⟨Hi1, dx, Γ1, s1, g1, den1, h1⟩
  refine ⟨W, Hi1, Γ1, _, g1, h1, ?_⟩
  intro i H2 Hi2 Γ2 s2 g2 h2
  refine ⟨W, Hi2, Γ2, _, g2, h2, ?_⟩
  intro j H3 Hi3 Γ3 s3 g3 h3
  refine l Hi3 H3 x dx i j _ _ g3.fz (den1.mono (s2.trans s3)) h3 ?_
  intro Hi4 H4 v d e den q
  exact fin v H4 ⟨Hi4, d, Γ3, s1.trans (s2.trans (s3.trans e.hi)), g3.ext e, den, q⟩
/-! ### methods of built-in values, by value -/
abbrev RM' := D → List D → (D → Prop) → Prop
def LiftM (K : PySem.W.Frag) (T : String) (r : V → List V → Hp → VK → Prop) (r' : RM') : Prop := ∀ (Hi H : Hp) (x : V) (vs : List V) (dx : D) (ds : List D) (Q : D → Prop) (Q2 : VK), Fz Hi H → Den K Hi x dx → DenL K Hi vs ds → r' dx ds Q → (∀ Hi' H' v d, Ext Hi H Hi' H' → Den K Hi' v d → Q d → Q2 v H') → r x vs H Q2
/-- the datum is of that built-in kind -/
def tyD (T : String) : D → Prop
  | .str _ => T = "str"
  | .int _ => T = "int"
  | .lst _ => T = "list"
  | _ => False
structure Met (X : Cx) (T : String) (id : String) (r' : RM') : Prop where
  ex : ∃ r, MtR X id r ∧ LiftM X.K T r r'
def tBM' (T : String) (r : RM') (to : TE') (t : TA') : TE' := fun Γ Q => to Γ fun x Γ1 => tyD T x ∧ t Γ1 fun ds Γ2 => r x ds fun d => Q d Γ2
def tBM0' (T : String) (r : RM') (to : TE') : TE' := fun Γ Q => to Γ fun x Γ1 => tyD T x ∧ r x [] fun d => Q d Γ1
/-! ### statements -/
def tNext' : TS' := fun N Γ => N.nx Γ
def tSeq' (t u : TS') : TS' := fun N Γ => t { N with nx := u N } Γ
def tBreak' : TS' := fun N Γ => N.bk Γ
def tCont' : TS' := fun N Γ => N.ct Γ
theorem pss_nil' : PSs' X [] tNext' := by
  refine ⟨PSs.weak pss_nil ?_⟩
  rintro N2 σ H ⟨W, Hi, Γ, N, g, h, l⟩
  exact l.nx σ H Hi Γ (Same.refl _) g h
theorem pss_cons' {s : Stmt} {rest : List Stmt} {t u : TS'} (h1 : PS' X s t) (h2 : PSs' X rest u) : PSs' X (s :: rest) (tSeq' t u) := by
  refine ⟨PSs.weak (pss_cons h1.h h2.h) ?_⟩
  rintro N2 σ H ⟨W, Hi, Γ, N, g, h, l⟩
  refine ⟨W, Hi, Γ, _, g, h, ?_, l.bk, l.ct, l.rt⟩
  intro σ1 H1 Hi1 Γ1 s1 g1 q
  exact ⟨W, Hi1, Γ1, N, g1, q, l.mono s1⟩
theorem pss_one' {s : Stmt} {t : TS'} (h1 : PS' X s t) : PSs' X [s] t := ⟨pss_one h1.h⟩
def tRet' (te : TE') : TS' := fun N Γ => te Γ fun d Γ1 => N.rt (.val d) Γ1
def tRetO' (te : TO') : TS' := fun N Γ => te Γ fun o Γ1 => N.rt (.own o) Γ1
theorem ps_ret' {e : Expr} {te : TE'} (he : PE' X e te) : PS' X (.Return (some e) pos) (tRet' te) := by
  refine ⟨PS.weak (ps_ret he.h) ?_⟩
  rintro N2 σ H ⟨W, Hi, Γ, N, g, h, l⟩
  refine ⟨W, Hi, Γ, _, g, h, ?_⟩
  rintro v H1 ⟨Hi1, d, Γ1, s1, g1, den, q⟩
  exact l.rt v σ H1 Hi1 Γ1 (.val d) s1 g1 den q
/-- a name's own thing is given back -/
def tRetV' (n i : Nat) : TS' := fun N Γ => i < n ∧ ∃ o, Γ[i]? = some (.own o) ∧ N.rt (.own o) Γ
theorem ps_retV' (i : Nat) {x : Str} {p : Pos} (hN : X.N[i]? = some x := by rfl) (hv : Vis X.env.scope x := by first | exact Or.inl rfl | exact Or.inr (Or.inl rfl) | exact Or.inr (Or.inr rfl)) (hd : (x == ("__debug__" : Str)) = false := by decide)
    (hcd : (x == ("__classdict__" : Str)) = false := by decide) : PS' X (.Return (some (.Name x p)) pos) (tRetV' X.N.length i) := by
  refine ⟨PS.weak (ps_ret (pe_var (i := i) hN hv hd hcd)) ?_⟩
  rintro N2 σ H ⟨W, Hi, Γ, N, g, ⟨hi, o, e, q⟩, l⟩
  obtain ⟨a, h1, h2, h3, h4⟩ := g.own i o e
  unfold adr at h1
  rw [if_pos hi] at h1
  exact ⟨.ref a, refOf_some h1, l.rt _ σ H Hi Γ (.own o) (Same.refl _) g ⟨a, rfl, h2, h3 hi, h4⟩ q⟩
def tRetN' : TS' := fun N Γ => N.rt (.val .non) Γ
def tIfS' (c : TT') (t u : TS') : TS' := fun N Γ => c Γ fun b Γ1 => if b = true then t N Γ1 else u N Γ1
theorem ps_if' {c : Expr} {sa sb : List Stmt} {tc : TT'} {t u : TS'} (hc : PT' X c tc) (ha : PSs' X sa t) (hb : PSs' X sb u) : PS' X (.If c sa sb pos) (tIfS' tc t u) := by
  refine ⟨PS.weak (ps_if hc.h ha.h hb.h) ?_⟩
  rintro N2 σ H ⟨W, Hi, Γ, N, g, h, l⟩
  refine ⟨W, Hi, Γ, _, g, h, ?_⟩
  intro k H1 Hi1 Γ1 s1 g1 q
  cases k with
  | true => exact ⟨W, Hi1, Γ1, N, g1, q, l.mono s1⟩
  | false => exact ⟨W, Hi1, Γ1, N, g1, q, l.mono s1⟩
def tDrop' (te : TE') : TS' := fun N Γ => te Γ fun _ Γ1 => N.nx Γ1
/-! ### targets, assignments -/
def gName' (i : Nat) : TG' := fun d Γ Q => Q (Γ.set i (.val d))
theorem pg_name' (i : Nat) {x : Str} (hN : X.N.Nodup) (hi : X.N[i]? = some x := by rfl) (hx : Loc X.env.scope x := by first | exact Or.inl rfl | exact Or.inr rfl) (hf : X.fn x = true ∨ X.env.scope.names.lookup x = some .local := by first | exact .inl rfl | exact .inr rfl | assumption) : PG' X (.Name x pos) (gName' i) := by
  refine ⟨PG.weak (pg_name (i := i) hN hi hx hf) ?_⟩
  rintro v σ H Q ⟨W, Hi, Γ, d, Q', g, den, q, fin⟩
  exact fin _ H Hi _ (Same.refl _) (g.set (List.getElem?_eq_some_iff.mp hi).1 den) q
def tAsg' (te : TE') (g : TG') : TS' := fun N Γ => te Γ fun d Γ1 => g d Γ1 N.nx
theorem ps_set' (i : Nat) {x : Str} {e : Expr} {te : TE'} {pos' : Pos} (hN : X.N.Nodup) (he : PE' X e te) (hi : X.N[i]? = some x := by rfl) (hx : Loc X.env.scope x := by first | exact Or.inl rfl | exact Or.inr rfl) (hs : swapsWith e (some (.Name x pos')) pos.line X.env = pure false := by rfl)
    (hf : X.fn x = true ∨ X.env.scope.names.lookup x = some .local := by first | exact .inl rfl | exact .inr rfl | assumption) : PS' X (.Assign [.Name x pos'] e pos) (tAsg' te (gName' i)) := by
  refine ⟨PS.weak (ps_set (i := i) hN hi hx he.h hs hf) ?_⟩
  rintro N2 σ H ⟨W, Hi, Γ, N, g, h, l⟩
  refine ⟨W, Hi, Γ, _, g, h, ?_⟩
  rintro v H1 ⟨Hi1, d, Γ1, s1, g1, den, q⟩
  exact l.nx _ H1 Hi1 _ s1 (g1.set (List.getElem?_eq_some_iff.mp hi).1 den) q
def tAsgO' (te : TO') (i : Nat) : TS' := fun N Γ => te Γ fun o Γ1 => N.nx (Γ1.set i (.own o))
theorem ps_setO' (i : Nat) {x : Str} {e : Expr} {te : TO'} {pos' : Pos} (hN : X.N.Nodup) (he : PO' X e te) (hi : X.N[i]? = some x := by rfl) (hx : Loc X.env.scope x := by first | exact Or.inl rfl | exact Or.inr rfl) (hs : swapsWith e (some (.Name x pos')) pos.line X.env = pure false := by rfl)
    (hf : X.fn x = true ∨ X.env.scope.names.lookup x = some .local := by first | exact .inl rfl | exact .inr rfl | assumption) : PS' X (.Assign [.Name x pos'] e pos) (tAsgO' te i) := by
  refine ⟨PS.weak (ps_set (i := i) hN hi hx he.h hs hf) ?_⟩
  rintro N2 σ H ⟨W, Hi, Γ, N, g, h, l⟩
  refine ⟨W, Hi, Γ, _, g, h, ?_⟩
  intro a H1 Hi1 Γ1 o s1 g1 nw q
  exact l.nx _ H1 Hi1 _ s1 (g1.setO (List.getElem?_eq_some_iff.mp hi).1 nw.hi nw.h0 nw.ne nw.own) q
/-! ### for -/
def ForD (g : TG') (tb : TS') (N : Ends') : List D → Sts → Prop
  | [], Γ => N.nx Γ
  | d :: ds, Γ => g d Γ fun Γ2 => tb { N with nx := ForD g tb N ds, ct := ForD g tb N ds, bk := N.nx } Γ2
def tFor' (ti : TI') (g : TG') (tb : TS') : TS' := fun N Γ => ti Γ fun ds Γ1 => ForD g tb N ds Γ1
theorem ps_for' {tg iter : Expr} {body : List Stmt} {ti : TI'} {g : TG'} {tb : TS'} (hi : PI' X tg iter ti) (hg : PG' X tg g) (hb : PSs' X body tb) (hp : PassesOwn (model X.prog X.w) X.A X.env X.xe := by exact PassesOwn.never) (hc : X.calm = true := by rfl)
    (hs : ∀ x, foldedSetIterable iter X.env x = pure x := by intro _; rfl) : PS' X (.For tg iter body [] pos) (tFor' ti g tb) := by
  refine ⟨PS.weak (ps_for hp hc hi.h hg.h hb.h hs) ?_⟩
  rintro N2 σ H ⟨W, Hi, Γ, N, gd, h, l⟩
  refine ⟨W, Hi, Γ, _, gd, h, ?_⟩
  intro J H1 Hi1 Γ1 ds s1 g1 itd q
  refine ⟨fun i m σ' H' => m = ds.length - i ∧ i ≤ ds.length ∧ ∃ Hi' Γ', Same Hi1 Hi' ∧ Good X.K X.N.length W Hi' Γ' σ' H' ∧ ForD g tb N (ds.drop i) Γ', ⟨ds.length, by simp, Nat.zero_le _, Hi1, Γ1, Same.refl _, g1, by simpa using q⟩, ?_⟩
  rintro i m σ' H' ⟨rfl, hi', Hi', Γ', s2, g2, q2⟩
  have wk := itd Hi' H' s2 g2.fz
  by_cases hlt : i < ds.length
  · have hd : ds.drop i = ds[i] :: ds.drop (i + 1) := List.drop_eq_getElem_cons hlt
    rw [hd] at q2
    obtain ⟨go, yl⟩ := wk.1 i ds[i] (List.getElem?_eq_getElem hlt)
    refine .inr ⟨go, fun σ3 H3 => ∃ Hi3 Γ3, Same Hi' Hi3 ∧ Good X.K X.N.length W Hi3 Γ3 σ3 H3 ∧ ForD g tb N (ds.drop (i + 1)) Γ3, fun σ3 H3 ⟨Hi3, Γ3, s3, g3, q3⟩ => ⟨ds.length - (i + 1), by omega, rfl, hlt, Hi3, Γ3, s2.trans s3, g3, q3⟩, fun x H'' y => ?_⟩
    obtain ⟨Hi'', ex, den⟩ := yl x H'' y
    refine ⟨W, Hi'', Γ', ds[i], _, g2.ext ex, den, q2, ?_⟩
    intro σ4 H4 Hi4 Γ4 s4 g4 q4
    have sx : Same Hi' Hi4 := ex.hi.trans s4
    refine ⟨W, Hi4, Γ4, _, g4, q4, ?_⟩
    refine ⟨fun σ5 H5 Hi5 Γ5 s5 g5 q5 => ⟨Hi5, Γ5, sx.trans s5, g5, q5⟩, fun σ5 H5 Hi5 Γ5 s5 g5 q5 => l.nx σ5 H5 Hi5 Γ5 (s1.trans (s2.trans (sx.trans s5))) g5 q5, fun σ5 H5 Hi5 Γ5 s5 g5 q5 => ⟨Hi5, Γ5, sx.trans s5, g5, q5⟩, fun v σ5 H5 Hi5 Γ5 r s5 g5 ro q5 => l.rt v σ5 H5 Hi5 Γ5 r (s1.trans (s2.trans (sx.trans s5))) g5 ro q5⟩
  · have e : i = ds.length := by omega
    subst e
    rw [List.drop_eq_nil_of_le (Nat.le_refl _)] at q2
    exact .inl ⟨wk.2, l.nx σ' H' Hi' Γ' (s1.trans s2) g2 q2⟩
/-! ### while -/
def tWhile' (c : TT') (tb : TS') : TS' := fun N Γ => ∃ Wv : Nat → Sts → Prop, (∃ m, Wv m Γ) ∧ ∀ m Γ, Wv m Γ → c Γ fun b Γ1 => if b = true then tb { N with nx := fun Γ2 => ∃ m', m' < m ∧ Wv m' Γ2, ct := fun Γ2 => ∃ m', m' < m ∧ Wv m' Γ2, bk := N.nx } Γ1 else N.nx Γ1
/-! ### what a loop walks -/
theorem itd_list {K : PySem.W.Frag} {Hi : Hp} {a : Addr} {vs : List V} {ds : List D} (h : SqL K Hi a vs) (r : DenL K Hi vs ds) : ItD K Hi (Itl K a) ds := by
  intro Hi' H' s1 s2
  have hq : SqL K H' a vs := sqL_mono (s1.trans s2.sub) h
  refine ⟨fun i d e => ?_, vs, hq, by rw [paired_len r]; exact Nat.le_refl _⟩
  obtain ⟨v, e1, e2⟩ := paired_right r e
  refine ⟨⟨vs, v, hq, e1⟩, ?_⟩
  rintro x H'' ⟨rfl, y⟩
  have := y vs hq
  rw [e1] at this
  cases this
  exact ⟨Hi', Ext.refl s2, e2.mono s1⟩
theorem itd_tup {K : PySem.W.Frag} {Hi : Hp} {a : Addr} {vs : List V} {ds : List D} (h : SqT K Hi a vs) (r : DenL K Hi vs ds) : ItD K Hi (Itt K a) ds := by
  intro Hi' H' s1 s2
  have hq : SqT K H' a vs := sqT_mono (s1.trans s2.sub) h
  refine ⟨fun i d e => ?_, vs, hq, by rw [paired_len r]; exact Nat.le_refl _⟩
  obtain ⟨v, e1, e2⟩ := paired_right r e
  refine ⟨⟨vs, v, hq, e1⟩, ?_⟩
  rintro x H'' ⟨rfl, y⟩
  have := y vs hq
  rw [e1] at this
  cases this
  exact ⟨Hi', Ext.refl s2, e2.mono s1⟩
theorem itd_str {K : PySem.W.Frag} {Hi : Hp} (l : List Nat) : ItD K Hi (Its l) (l.map fun c => .str [c]) := by
  intro Hi' H' s1 s2
  refine ⟨fun i d e => ?_, by rw [List.length_map]; rfl⟩
  rw [List.getElem?_map] at e
  cases hc : l[i]? with
  | none => rw [hc] at e; cases e
  | some c =>
    rw [hc] at e
    cases e
    refine ⟨(List.getElem?_eq_some_iff.mp hc).1, ?_⟩
    rintro x H'' ⟨rfl, c', e', rfl⟩
    rw [hc] at e'
    cases e'
    exact ⟨Hi', Ext.refl s2, .str [c]⟩
theorem itd_rng {K : PySem.W.Frag} {Hi : Hp} (lo : Int) (n : Nat) : ItD K Hi (Itr lo n) ((List.range n).map fun k => .int (lo + (k : Nat))) := by
  intro Hi' H' s1 s2
  refine ⟨fun i d e => ?_, by rw [List.length_map, List.length_range]; exact Nat.le_refl _⟩
  rw [List.getElem?_map] at e
  cases hc : (List.range n)[i]? with
  | none => rw [hc] at e; cases e
  | some c =>
    rw [hc] at e
    cases e
    have hi : i < n := by
      have := (List.getElem?_eq_some_iff.mp hc).1
      rwa [List.length_range] at this
    have ec : c = i := by
      rw [List.getElem?_range hi] at hc
      exact (Option.some.inj hc).symm
    subst ec
    refine ⟨hi, ?_⟩
    rintro x H'' ⟨rfl, rfl⟩
    exact ⟨Hi', Ext.refl s2, .int _⟩
/-- over a list, a tuple, a text -/
def seqD : D → Option (List D)
  | .lst ds => some ds
  | .tup ds => some ds
  | .str l => some (l.map fun c => .str [c])
  | _ => none
def iSeq' (t : TE') : TI' := fun Γ Q => t Γ fun d Γ1 => ∃ ds, seqD d = some ds ∧ Q ds Γ1
theorem pi_seq3 {l tg : Expr} {tl : TE} (hl : PE X l tl) : PI X tg l (fun σ H R => tl σ H fun x H1 => (∃ a, x = .ref a ∧ (∃ xs, SqL X.K H1 a xs) ∧ R (Itl X.K a) H1) ∨ (∃ a, x = .ref a ∧ (∃ xs, SqT X.K H1 a xs) ∧ R (Itt X.K a) H1) ∨ (∃ z, x = .str z ∧ R (Its z.cps.toList) H1)) := by
  intro pins s σ H R I h
  refine thn (hl pins s σ H _ I h) fun v s1 ⟨x, H1, I1, r1, q1⟩ => ?_
  have fin : ∀ b ∈ [s1.heap.objs.size], FpOk X pins H1 b := fun b hb => by
    have e : b = s1.heap.objs.size := by simpa using hb
    subst e
    exact I1.fpOk (Nat.le_refl _) (I1.hok.fresh (Nat.le_refl _))
  rcases q1 with ⟨a, rfl, ⟨xs, hq⟩, q⟩ | ⟨a, rfl, ⟨xs, hq⟩, q⟩ | ⟨z, rfl, q⟩
  · cases r1
    obtain ⟨its, rv, p, hz⟩ := I1.list hq
    refine wpAny_pyIter_list p.isList ?_
    exact ⟨s1.heap.objs.size, [s1.heap.objs.size], _, _, H1, rfl, I1.kept (t' := s1.toks) fun b o e => Heap.get?_push_of_some _ e, turn_list a _, ⟨_, Heap.get?_push_size _ rfl, rfl, rfl⟩, fin, q⟩
  · cases r1
    obtain ⟨its, rv, p, hz⟩ := I1.tuple hq
    refine wpAny_pyIter_tuple (show s1.heap.IsTuple a its.toArray from p) ?_
    exact ⟨s1.heap.objs.size, [s1.heap.objs.size], _, _, H1, rfl, I1.kept (t' := s1.toks) fun b o e => Heap.get?_push_of_some _ e, turn_tuple a _, ⟨_, Heap.get?_push_size _ rfl, rfl, rfl⟩, fin, q⟩
  · obtain ⟨t, rfl⟩ := r1
    cases ha : z.cps.all (· < 128)
    · refine wpAny_pyIter_wide ha ?_
      exact ⟨s1.heap.objs.size, [s1.heap.objs.size], _, _, H1, rfl, I1.kept (t' := s1.toks) fun b o e => Heap.get?_push_of_some _ e, turn_str z t _ (.inr rfl), ⟨_, Heap.get?_push_size _ rfl, rfl, rfl⟩, fin, q⟩
    · refine wpAny_pyIter_ascii ha ?_
      exact ⟨s1.heap.objs.size, [s1.heap.objs.size], _, _, H1, rfl, I1.kept (t' := s1.toks) fun b o e => Heap.get?_push_of_some _ e, turn_str z t _ (.inl rfl), ⟨_, Heap.get?_push_size _ rfl, rfl, rfl⟩, fin, q⟩
theorem pi_seq' {l tg : Expr} {t : TE'} (hl : PE' X l t) : PI' X tg l (iSeq' t) := by
  refine ⟨PI.weak (pi_seq3 hl.h) ?_⟩
  rintro σ H R ⟨W, Hi, Γ, Q', g, h, fin⟩
  refine ⟨W, Hi, Γ, _, g, h, ?_⟩
  rintro v H1 ⟨Hi1, d, Γ1, s1, g1, den, ds, e, q⟩
  cases d with
  | lst es =>
    cases e
    obtain ⟨a, vs, rfl, h1, h2⟩ := den.lstI
    exact .inl ⟨a, rfl, ⟨vs, sqL_mono g1.sub h1⟩, fin _ H1 Hi1 Γ1 _ s1 g1 (itd_list h1 h2) q⟩
  | tup es =>
    cases e
    obtain ⟨a, vs, rfl, h1, h2⟩ := den.tupI
    exact .inr (.inl ⟨a, rfl, ⟨vs, sqT_mono g1.sub h1⟩, fin _ H1 Hi1 Γ1 _ s1 g1 (itd_tup h1 h2) q⟩)
  | str l =>
    cases e
    refine .inr (.inr ⟨_, den.strI, ?_⟩)
    rw [st_list]
    exact fin _ H1 Hi1 Γ1 _ s1 g1 (itd_str l) q
  | _ => cases e
def iRng1' (t : TA') : TI' := fun Γ Q => t Γ fun ds Γ1 => ∃ j : Int, ds = [.int j] ∧ -(2 ^ 62) ≤ j ∧ j < 2 ^ 62 ∧ Q ((List.range j.toNat).map fun k => .int (0 + (k : Nat))) Γ1
def iRng2' (t : TA') : TI' := fun Γ Q => t Γ fun ds Γ1 => ∃ i j : Int, ds = [.int i, .int j] ∧ (-(2 ^ 62) ≤ i ∧ i < 2 ^ 62 ∧ -(2 ^ 62) ≤ j ∧ j < 2 ^ 62) ∧ Q ((List.range (j - i).toNat).map fun k => .int (i + (k : Nat))) Γ1
theorem denL1 {K : PySem.W.Frag} {H : Hp} {vs : List V} {d : D} (h : DenL K H vs [d]) : ∃ v, vs = [v] ∧ Den K H v d := by
  cases h with
  | cons r t => cases t; exact ⟨_, rfl, r⟩
theorem denL2 {K : PySem.W.Frag} {H : Hp} {vs : List V} {d e : D} (h : DenL K H vs [d, e]) : ∃ v w, vs = [v, w] ∧ Den K H v d ∧ Den K H w e := by
  cases h with
  | cons r t =>
    obtain ⟨w, rfl, q⟩ := denL1 t
    exact ⟨_, w, rfl, r, q⟩
theorem pi_range1' {a tg : Expr} {t : TA'} {p pos : Pos} (hm : X.mg "range" = none) (ha : PA' X [a] t) (hg : Gl X "range" := by rfl) : PI' X tg (.Call (.Name "range" p) [a] [] pos) (iRng1' t) := by
  refine ⟨PI.weak (pi_range1 hg hm ha.pa (star_of (plain_cons ha.pl).1)) ?_⟩
  rintro σ H R ⟨W, Hi, Γ, Q', g, h, fin⟩
  refine ⟨W, Hi, Γ, _, g, h, ?_⟩
  rintro vs H1 Hi1 Γ1 ds s1 g1 dl ⟨j, rfl, b1, b2, q⟩
  obtain ⟨v, rfl, den⟩ := denL1 dl
  rw [den.intI]
  exact ⟨j, rfl, b1, b2, fin _ H1 Hi1 Γ1 _ s1 g1 (itd_rng 0 _) q⟩
/-! ### [elt for target in iter if test] -/
def blkΓ (src : List (Option Nat)) (Γ : Sts) : Sts := src.map fun o => match o with
  | none => .emp
  | some i => match Γ[i]? with
    | some (.val d) => .val d
    | _ => .emp
def voS : Slot → Slot
  | .val d => .val d
  | _ => .emp
def vo (Γ : Sts) : Sts := Γ.map voS
def CompD (g : TG') (tc : TT') (te : TE') (Q : List D → Prop) : List D → List D → Sts → Prop
  | [], acc, _ => Q acc
  | d :: ds, acc, Γ => g d Γ fun Γ2 => tc Γ2 fun b Γ3 => if b = true then te Γ3 fun y Γ4 => CompD g tc te Q ds (acc ++ [y]) (vo Γ4) else CompD g tc te Q ds acc (vo Γ3)
def tComp' (ti : TI') (src : List (Option Nat)) (g : TG') (tc : TT') (te : TE') : TO' := fun Γ Q => ti Γ fun ds Γ1 => ds.length ≤ sizeLine ∧ CompD g tc te (fun acc => Q (.lst acc) Γ1) ds [] (blkΓ src Γ1)
/-- the tests of a clause -/
structure PTs' (X : Cx) (ifs : List Expr) (t : TT') : Prop where
  h : PTs X ifs (ttOf X.K X.N.length t)
def tYes : TT' := fun Γ Q => Q true Γ
theorem pts_nil' : PTs' X [] tYes := by
  refine ⟨?_⟩
  intro pins s σ H Q I h
  obtain ⟨W, Hi, Γ, Q', g, h, fin⟩ := h
  exact pts_nil pins s σ H Q I (fin true H Hi Γ (Same.refl _) g h)
theorem po_comp {elt tg iter : Expr} {ifs : List Expr} {sc fsc : Scope} {ti : TI'} {g : TG'} {tc : TT'} {te : TE'} {N N' : List Str} {src : List (Option Nat)} (B : Blk N N' src fsc sc) (hi : PI' X tg iter ti)
    (hg : ∀ cl C s H fp pn, PG' (blk X N' sc cl C s H fp pn) tg g) (ht : ∀ cl C s H fp pn, PTs' (blk X N' sc cl C s H fp pn) ifs tc) (he : ∀ cl C s H fp pn, PE' (blk X N' sc cl C s H fp pn) elt te)
    (hx : X.xe = (fun _ _ => False) := by rfl) (hc : X.calm = true := by rfl) (hN : X.N = N := by rfl) (hs : X.env.scope = fsc := by rfl)
    (hf : ∀ x, foldedSetIterable iter X.env x = pure x := by intro _; rfl) : PO' X (.ListComp elt [⟨tg, iter, ifs, 0⟩] sc pos) (tComp' ti src g tc te) := by
  refine ⟨PE.weak (pe_comp (g := gOf X.K N'.length g) (tc := ttOf X.K N'.length tc) (te := tOf X.K N'.length te) B hi.h (fun a b c d e f => (hg a b c d e f).h) (fun a b c d e f => (ht a b c d e f).h) (fun a b c d e f => (he a b c d e f).h) hx hc hN hs hf) ?_⟩
  rintro σ H Q2 ⟨W, Hi, Γ, Q, gd, h, fin⟩
  refine ⟨W, Hi, Γ, _, gd, h, ?_⟩
  rintro J H1 Hi1 Γ1 ds s1 g1 itd ⟨hlen, q⟩
  intro A hA
  -- the state between two turns
  have hn' : src.length = N'.length := B.len
  refine comp_over (n := ds.length) (fun i σ' H' => ∃ Hi' acc vs Γ', Same Hi1 Hi' ∧ Fz Hi' H' ∧ (∀ b o, H1 b = some o → H' b = some o) ∧ (∀ b o, H1 b = some o → Hi' b = Hi1 b) ∧ Hi' A = none ∧ H' A = some (.lst vs) ∧ DenL X.K Hi' vs acc ∧ vs.length ≤ i ∧ σ'.length = N'.length ∧
      (∀ (j : Nat) s, Γ'[j]? = some s → s = .emp ∨ ∃ d, s = .val d ∧ ∃ v, σ'[j]? = some (some v) ∧ Den X.K Hi' v d) ∧ CompD g tc te (fun acc => Q (.lst acc) Γ1) (ds.drop i) acc Γ') ?_ ?_ ?_
  · refine ⟨Hi1, [], [], blkΓ src Γ1, Same.refl _, (Ext.newO g1.fz hA _ (fun _ z => by cases z)).fz, fun b o e => same_upd hA _ b o e, fun b o e => rfl, g1.sub.free hA, upd_same, .nil, Nat.zero_le _, ?_, fun j s e => ?_, by simpa using q⟩
    · unfold seen; rw [List.length_map, hn']
    · unfold blkΓ at e
      rw [List.getElem?_map] at e
      cases hj : src[j]? with
      | none => rw [hj] at e; cases e
      | some o =>
        rw [hj] at e
        cases o with
        | none => cases e; exact .inl rfl
        | some i =>
          have e' : (match Γ1[i]? with | some (.val d) => Slot.val d | _ => .emp) = s := Option.some.inj e
          cases hΓ : Γ1[i]? with
          | none => rw [hΓ] at e'; exact .inl e'.symm
          | some sl =>
            rw [hΓ] at e'
            cases sl with
            | val d =>
              refine .inr ⟨d, e'.symm, ?_⟩
              obtain ⟨v, h1, h2⟩ := g1.val i d hΓ
              refine ⟨v, ?_, h2⟩
              unfold seen
              rw [List.getElem?_map, hj]
              show some ((some i).bind fun i => (σ[i]?).join) = some (some v)
              show some ((σ[i]?).join) = some (some v)
              rw [h1]
              rfl
            | emp => exact .inl e'.symm
            | own o => exact .inl e'.symm
            | par k => exact .inl e'.symm
  · rintro i σ' H' hlt ⟨Hi', acc, vs, Γ', s2, s3, k1, k2, hA1, hA2, dl, hv, hl, hsl, q⟩
    have hd : ds.drop i = ds[i] :: ds.drop (i + 1) := List.drop_eq_getElem_cons hlt
    rw [hd] at q
    obtain ⟨go, yl⟩ := (itd Hi' H' s2 s3).1 i ds[i] (List.getElem?_eq_getElem hlt)
    refine ⟨go, fun x H'' y => ?_⟩
    obtain ⟨Hi'', ex, den⟩ := yl x H'' y
    have gb : Good X.K N'.length ⟨H'', Hi'', []⟩ Hi'' Γ' σ' H'' := by
      refine ⟨hl, ex.fz, fun b o e _ => e, fun b o e => ⟨o, e⟩, fun b o e => rfl, fun j d e => ?_, fun j o e => ?_, fun j k o o' b e => ?_, fun j k e => ?_⟩
      · rcases hsl j _ e with z | ⟨d', z, v, h1, h2⟩
        · cases z
        · cases z; exact ⟨v, h1, h2.mono ex.hi⟩
      · rcases hsl j _ e with z | ⟨d', z, _⟩ <;> cases z
      · rcases hsl j _ e with z | ⟨d', z, _⟩ <;> cases z
      · rcases hsl j _ e with z | ⟨d', z, _⟩ <;> cases z
    refine ⟨⟨H'', Hi'', []⟩, Hi'', Γ', ds[i], _, gb, den, q, ?_⟩
    intro σ3 H3 Hi3 Γ3 s4 g3 q3
    refine ⟨⟨H'', Hi'', []⟩, Hi3, Γ3, _, g3, q3, ?_⟩
    intro b H4 Hi4 Γ4 s5 g4 q4
    -- what the state is behind a turn
    have back : ∀ {Γ5 : Sts} {Hi5 H5 : Hp}, Same Hi4 Hi5 → Good X.K N'.length ⟨H'', Hi'', []⟩ Hi5 Γ5 σ3 H5 →
        Same Hi1 Hi5 ∧ Fz Hi5 H5 ∧ (∀ b o, H1 b = some o → H5 b = some o) ∧ (∀ b o, H1 b = some o → Hi5 b = Hi1 b) ∧ Hi5 A = none ∧ H5 A = some (.lst vs) ∧ Same Hi' Hi5 := fun {Γ5 Hi5 H5} s6 g5 => by
      have sx : Same Hi' Hi5 := ex.hi.trans (s4.trans (s5.trans s6))
      have hA3 : H'' A = some (.lst vs) := ex.h _ _ hA2
      refine ⟨s2.trans sx, g5.fz, fun b o e => g5.keep b o (ex.h _ _ (k1 b o e)) (by simp), fun b o e => ?_, ?_, g5.keep A _ hA3 (by simp), sx⟩
      · rw [g5.fro b o (ex.h _ _ (k1 b o e))]
        show Hi'' b = Hi1 b
        rw [ex.fro b o (k1 b o e), k2 b o e]
      · rw [g5.fro A _ hA3]
        show Hi'' A = none
        rw [ex.fro A _ hA2, hA1]
    have sl : ∀ {Γ5 : Sts} {Hi5 H5 : Hp}, Good X.K N'.length ⟨H'', Hi'', []⟩ Hi5 Γ5 σ3 H5 → ∀ (j : Nat) s, (vo Γ5)[j]? = some s → s = .emp ∨ ∃ d, s = .val d ∧ ∃ v, σ3[j]? = some (some v) ∧ Den X.K Hi5 v d := fun {Γ5 Hi5 H5} g5 j s e => by
      unfold vo at e
      rw [List.getElem?_map] at e
      cases hj : Γ5[j]? with
      | none => rw [hj] at e; cases e
      | some sl =>
        rw [hj] at e
        cases sl with
        | val d =>
          cases e
          exact .inr ⟨d, rfl, g5.val j d hj⟩
        | emp => cases e; exact .inl rfl
        | own o => cases e; exact .inl rfl
        | par k => cases e; exact .inl rfl
    cases b with
    | false =>
      simp only [Bool.false_eq_true, if_false] at q4 ⊢
      obtain ⟨b1, b2, b3, b4, b5, b6, b7⟩ := back (Same.refl _) g4
      exact ⟨Hi4, acc, vs, vo Γ4, b1, b2, b3, b4, b5, b6, dl.mono b7, by omega, g4.len, sl g4, q4⟩
    | true =>
      simp only [if_true] at q4 ⊢
      refine ⟨⟨H'', Hi'', []⟩, Hi4, Γ4, _, g4, q4, ?_⟩
      rintro y' H5 ⟨Hi5, dy, Γ5, s6, g5, den5, q5⟩
      obtain ⟨b1, b2, b3, b4, b5, b6, b7⟩ := back s6 g5
      refine ⟨vs, b6, by omega, Hi5, acc ++ [dy], vs ++ [y'], vo Γ5, b1, ?_, ?_, b4, b5, upd_same, paired_app (dl.mono b7) (.cons den5 .nil), by rw [List.length_append]; simp; omega, g5.len, sl g5, q5⟩
      · refine ⟨fun b o e => ?_, fun b xs e => ?_⟩
        · rw [upd_ne (fun z => by rw [z, b5] at e; cases e)]
          exact b2.sub b o e
        · by_cases hb : b = A
          · subst hb; rw [upd_same] at e; cases e
          · rw [upd_ne hb] at e; exact b2.tups b xs e
      · intro b o e
        rw [upd_ne (ne_of_none e hA)]
        exact b3 b o e
  · rintro σ' H' ⟨Hi', acc, vs, Γ', s2, s3, k1, k2, hA1, hA2, dl, hv, hl, hsl, q⟩
    refine ⟨(itd Hi' H' s2 s3).2, ?_⟩
    rw [List.drop_eq_nil_of_le (Nat.le_refl _)] at q
    have ex : Ext Hi1 H1 Hi' H' := ⟨s2, k1, s3, k2⟩
    refine fin A H' Hi' Γ1 (.lst acc) (s1.trans s2) (g1.ext ex) ⟨hA1, ?_, fun j o' e z => ?_, vs, hA2, dl⟩ q
    · cases hq : W.H₀ A with
      | none => rfl
      | some w =>
        obtain ⟨w', hw⟩ := g1.there A w hq
        rw [hA] at hw; cases hw
    · obtain ⟨a, h1, _, _, h4⟩ := g1.own j o' e
      rw [z] at h1
      cases h1
      obtain ⟨w, hw⟩ := h4.there
      rw [hA] at hw; cases hw
/-! ### what a def promises, over data -/
abbrev Sp' := List D → (Res → Prop) → Prop
def spOf (K : PySem.W.Frag) (sp : Sp') : Sp := fun vs H Q2 _ => ∃ Hi ds Q, Fz Hi H ∧ DenL K Hi vs ds ∧ sp ds Q ∧ ∀ Hi' H' v r, Ext Hi H Hi' H' → ResOk K H Hi' H' v r → Q r → Q2 v H'
def tCall' (sp : Sp') (t : TA') : TE' := fun Γ Q => t Γ fun ds Γ1 => sp ds fun r => Q r.toD Γ1
def tCallO' (sp : Sp') (t : TA') : TO' := fun Γ Q => t Γ fun ds Γ1 => sp ds fun r => ∃ o, r = .own o ∧ Q o Γ1
variable {k : Nat} {f : Addr} {fd : FuncData} {ps : List Str} {sp : Sp'} {x : Str} {p : Pos} {e : Expr} {es : List Expr} {t : TA'}
/-- what a callee gave back, in the caller's state -/
theorem res_back {K : PySem.W.Frag} {n : Nat} {W : Wd} {Hi H Hi' H' : Hp} {Γ : Sts} {σ : St} {a : Addr} {o : OD} (g : Good K n W Hi Γ σ H) (ex : Ext Hi H Hi' H') (h1 : Hi' a = none) (h2 : H a = none) (h3 : OwnAt K Hi' H' a o) : New K n W Hi' Γ σ H' a o := by
  refine ⟨h1, ?_, fun j o' e z => ?_, h3⟩
  · cases q : W.H₀ a with
    | none => rfl
    | some w =>
      obtain ⟨w', hw⟩ := g.there a w q
      rw [h2] at hw; cases hw
  · obtain ⟨b, q1, _, _, q4⟩ := g.own j o' e
    rw [z] at q1
    cases q1
    obtain ⟨w, hw⟩ := q4.there
    rw [h2] at hw; cases hw
theorem pe_call' (F : FnOk X.prog X.w X.K X.mg X.base CX0 k f fd ps (spOf X.K sp)) (hr : Room k X.A) (hm : X.mg x = some (.ref f)) (hk : PySem.W.keepIn X.K (.ref f) = true) (hb : Binds X.K fd ps [])
    (ha : PA' X (e :: es) t) (hg : Gl X x := by rfl) (hdb : (x == ("__debug__" : Str)) = false := by decide) :
    PE' X (.Call (.Name x p) (e :: es) [] pos) (tCall' sp t) := by
  refine ⟨PE.weak (pe_call (E := E0) (dvs := []) F hr hg hm hk hb .nil pass0 ha.pa hdb (star_of (plain_cons ha.pl).1) (plain_any (plain_cons ha.pl).2)) ?_⟩
  rintro σ H Q ⟨W, Hi, Γ, Q', g, h, fin⟩
  refine ⟨W, Hi, Γ, _, g, h, ?_⟩
  intro vs H1 Hi1 Γ1 ds s1 g1 dl q
  rw [List.append_nil]
  refine ⟨Hi1, ds, _, g1.fz, dl, q, ?_⟩
  intro Hi2 H2 v r ex ro q2
  cases r with
  | val d => exact fin v H2 ⟨Hi2, d, Γ1, s1.trans ex.hi, g1.ext ex, ro, q2⟩
  | own o =>
    obtain ⟨a, rfl, h1, h2, h3⟩ := ro
    have nw := res_back g1 ex h1 h2 h3
    obtain ⟨u, hu⟩ := h3.there
    exact fin _ H2 ⟨upd Hi2 a u, _, Γ1, s1.trans (ex.hi.trans (same_upd h1 u)), (g1.ext ex).freezeA nw.hi nw.h0 nw.ne hu, h3.den h1 hu, q2⟩
end
/-- the names' values at the entry -/
def start' (N : List Str) (ds : List D) : Sts := ds.map .val ++ List.replicate (N.length - ds.length) .emp
section
variable {P : Program} {w : World} {K : PySem.W.Frag} {mg : Str → Option Value} {base : Heap}
/-- THE RULE for a def, over data -/
theorem Fun.ok' {x qual : Str} {st : Stmt} {f : Addr} {fd : FuncData} {N ps : List Str} {k : Nat} {sp : Sp'} (F : Fun K x qual st f fd) (S : FnScope N ps (defScope st)) (len : ∀ ds Q, sp ds Q → ds.length = ps.length)
    (hbody : ∀ (cdv : Value) (A : Around) (outer : List Env) (s : Shared) (H : Hp) (E : XK), Room k (A.deeper (PyProof.Rows.envOfC qual (defScope st) s.heap.objs.size f cdv)) → ∀ ds Q, sp ds Q →
      ∃ t, PSs' (cxOf CX0 P w K mg base N qual (defScope st) f cdv A outer s H E).nox (defBody st) t ∧ t { nx := fun _ => Q (.val .non), rt := fun r _ => Q r } (start' N ds)) : FnOk P w K mg base CX0 (k + 1) f fd ps (spOf K sp) := by
  refine F.ok S (fun vs H Q E h => ?_) (fun cdv A outer s H vs Q E hr h => ?_)
  · obtain ⟨Hi, ds, Q', _, dl, h, _⟩ := h
    rw [paired_len dl]
    exact len ds Q' h
  obtain ⟨Hi, ds, Q', sb, dl, h, fin⟩ := h
  obtain ⟨t, h1, h2⟩ := hbody cdv A outer s H E hr ds Q' h
  have hlen : ds.length = ps.length := len ds Q' h
  have hpl : ps.length ≤ N.length := by have := congrArg List.length S.pre; rw [List.length_take] at this; omega
  have hvl := paired_len dl
  refine ⟨_, h1.h, ⟨H, Hi, []⟩, Hi, start' N ds, _, ?_, h2, ?_⟩
  · refine ⟨?_, sb, fun b o e _ => e, fun b o e => ⟨o, e⟩, fun b o e => rfl, fun j d e => ?_, fun j o e => ?_, fun j k o o' b e => ?_, fun j k e => ?_⟩
    · unfold L2.start
      show _ = N.length
      rw [List.length_append, List.length_map, List.length_replicate]
      omega
    all_goals
      unfold start' at e
      by_cases hj : j < ds.length
      · rw [List.getElem?_append_left (by simpa using hj), List.getElem?_map, List.getElem?_eq_getElem hj] at e
        try cases e
        try
          obtain ⟨v, e1, e2⟩ := paired_right dl (List.getElem?_eq_getElem hj)
          refine ⟨v, ?_, e2⟩
          unfold L2.start
          rw [List.getElem?_append_left (by rw [List.length_map]; omega), List.getElem?_map, e1]
          rfl
      · rw [List.getElem?_append_right (by simpa using hj), List.getElem?_replicate] at e
        split at e <;> cases e
  · refine ⟨fun σ' H' Hi' Γ' s1 g1 q => ?_, fun _ _ _ _ _ _ q => q.elim, fun _ _ _ _ _ _ q => q.elim, fun v σ' H' Hi' Γ' r s1 g1 ro q => ?_⟩
    · exact fin Hi' H' .non (.val .non) ⟨s1, fun b o e => g1.keep b o e (by simp), g1.fz, fun b o e => g1.fro b o e⟩ .non q
    · exact fin Hi' H' v r ⟨s1, fun b o e => g1.keep b o e (by simp), g1.fz, fun b o e => g1.fro b o e⟩ ro q
end
end PL

namespace L2
open PySem PySem.Spec PyProof.Rows
section
variable {X : Cx}
/-! ### new rules over values -/
theorem range_has (r : Addr) (a b : Int) (t u v : Tok) (i : Int) (t' : Tok) : Meets (Builtin.«range.__contains__» ⟨[.ref r, .int i t'], []⟩) (fun _ R s => s.heap.get? r = some { cls := .type "range", dict := none, data := .fields #[.int a t, .int b u, .int 1 v], slots := #[] } ∧
    R (.ok (.ret (.bool (Builtin.Range.rangePlace? a b 1 i).isSome))) s) :=
  .of_wp fun prog w A R s h => by obtain ⟨hp, g, d, tk, os⟩ := s; obtain ⟨hl, h⟩ := h; wp_walk; exact ⟨_, rfl, h⟩
theorem place_some (a b i : Int) : (Builtin.Range.rangePlace? a b 1 i).isSome = decide (a ≤ i ∧ i < b) := by
  unfold Builtin.Range.rangePlace?
  have h1 : (1 : Int) > 0 := by decide
  have h2 : (i - a) % 1 = 0 := Int.emod_one _
  simp only [h1, if_true, h2, beq_self_eq_true, Bool.and_true]
  by_cases h : a ≤ i ∧ i < b
  · have e : (decide (a ≤ i) && decide (i < b)) = true := by simp [h.1, h.2]
    rw [if_pos e, decide_eq_true h]
    rfl
  · have e : ¬ (decide (a ≤ i) && decide (i < b)) = true := by
      intro z
      simp only [Bool.and_eq_true, decide_eq_true_eq] at z
      exact h z
    rw [if_neg e, decide_eq_false h]
    rfl
def rInR (neg : Bool) : R2 := fun x y H Q => ∃ i p lo hi, x = .int i ∧ y = .ref p ∧ Rd H p (.rng lo hi) ∧ Q (.bl (if neg then !decide (lo ≤ i ∧ i < hi) else decide (lo ≤ i ∧ i < hi))) H
theorem op_notIn_rng : OpR X (compareOp .NotIn) (rInR true) := by
  intro pins s σ H x y v u Q I rx ry h
  obtain ⟨i, p, lo, hi, rfl, rfl, hp, q⟩ := h
  obtain ⟨t, rfl⟩ := rx
  cases ry
  obtain ⟨t1, t2, t3, e⟩ := hp.ok I.hok
  refine PySem.SeqRoads2.notIn_meets ⟨_, e, rfl⟩ F.slot_range_contains F.entry_range_contains (F.args_range_contains_2 _ _) (range_has p lo hi t1 t2 t3 i t) ⟨e, _, rfl, ⟨.bl _, H, I, rfl, ?_⟩⟩
  rw [place_some]
  exact q
/-- isinstance(x, c) of plain things -/
def KindV (K : PySem.W.Frag) (H : Hp) : V → String → Prop
  | .non, t => t = "NoneType"
  | .bl _, t => t = "bool"
  | .int _, t => t = "int"
  | .str _, t => t = "str"
  | .ref a, t => (t = "list" ∧ ∃ xs, SqL K H a xs) ∨ (t = "tuple" ∧ ∃ xs, SqT K H a xs) ∨ (t = "dict" ∧ ((∃ kvs, Rd H a (.dK kvs)) ∨ ∃ kvs, Rd H a (.dT kvs)))
  | _, _ => False
end
end L2

namespace PL
open PySem L2
section
variable {X : Cx} {K : PySem.W.Frag}
/-! ### two-place operations on data -/
theorem lift_I0 {g : Int → Int → V} (g' : Int → Int → D) (hg : ∀ i j Hi, Den K Hi (g i j) (g' i j)) : Lift2 K (rI0 g) (fun x y Q => ∃ i j, x = .int i ∧ y = .int j ∧ Q (g' i j)) := by
  rintro Hi H x y dx dy Q Q2 s d1 d2 ⟨i, j, rfl, rfl, q⟩ fin
  exact ⟨i, j, d1.intI, d2.intI, fin Hi H _ _ (Ext.refl s) (hg i j Hi) q⟩
theorem lift_I {C : Int → Int → Prop} {g : Int → Int → V} (g' : Int → Int → D) (hg : ∀ i j Hi, Den K Hi (g i j) (g' i j)) : Lift2 K (rI C g) (fun x y Q => ∃ i j, x = .int i ∧ y = .int j ∧ C i j ∧ Q (g' i j)) := by
  rintro Hi H x y dx dy Q Q2 s d1 d2 ⟨i, j, rfl, rfl, c, q⟩ fin
  exact ⟨i, j, d1.intI, d2.intI, c, fin Hi H _ _ (Ext.refl s) (hg i j Hi) q⟩
def rI0' (g : Int → Int → D) : R2' := fun x y Q => ∃ i j, x = .int i ∧ y = .int j ∧ Q (g i j)
def rI' (C : Int → Int → Prop) (g : Int → Int → D) : R2' := fun x y Q => ∃ i j, x = .int i ∧ y = .int j ∧ C i j ∧ Q (g i j)
theorem o_add : Op2 X (binaryOp .Add) (rI0' fun i j => .int (i + j)) := ⟨_, op_add, lift_I0 _ fun i j _ => .int _⟩
theorem o_sub : Op2 X (binaryOp .Sub) (rI0' fun i j => .int (i - j)) := ⟨_, op_sub, lift_I0 _ fun i j _ => .int _⟩
theorem o_mul : Op2 X (binaryOp .Mult) (rI' CMul fun i j => .int (i * j)) := ⟨_, op_mul, lift_I _ fun i j _ => .int _⟩
theorem o_fdiv : Op2 X (binaryOp .FloorDiv) (rI' CDiv fun i j => .int (i / j)) := ⟨_, op_fdiv, lift_I _ fun i j _ => .int _⟩
theorem o_mod : Op2 X (binaryOp .Mod) (rI' (fun _ j => 0 < j) fun i j => .int (i % j)) := ⟨_, op_mod, lift_I _ fun i j _ => .int _⟩
theorem o_lt : Op2 X (compareOp .Lt) (rI0' fun i j => .bl (decide (i < j))) := ⟨_, op_lt, lift_I0 _ fun i j _ => .bl _⟩
theorem o_gt : Op2 X (compareOp .Gt) (rI0' fun i j => .bl (decide (j < i))) := ⟨_, op_gt, lift_I0 _ fun i j _ => .bl _⟩
theorem o_ge : Op2 X (compareOp .GtE) (rI0' fun i j => .bl (decide (j ≤ i))) := ⟨_, op_ge, lift_I0 _ fun i j _ => .bl _⟩
def rAddS : R2' := fun x y Q => ∃ l m, x = .str l ∧ y = .str m ∧ l.length + m.length ≤ sizeLine ∧ Q (.str (l ++ m))
theorem o_adds : Op2 X (binaryOp .Add) rAddS := ⟨_, op_add_str, by
  rintro Hi H x y dx dy Q Q2 s d1 d2 ⟨l, m, rfl, rfl, hl, q⟩ fin
  refine ⟨_, _, d1.strI, d2.strI, by rw [st_len, st_len]; exact hl, ?_⟩
  rw [st_app]
  exact fin Hi H _ _ (Ext.refl s) (.str _) q⟩
/-- == of scalars -/
def eqS : D → D → Option Bool
  | .non, .non => some true
  | .non, .int _ => some false
  | .non, .bl _ => some false
  | .non, .str _ => some false
  | .int _, .non => some false
  | .bl _, .non => some false
  | .str _, .non => some false
  | .int i, .int j => some (decide (i = j))
  | .bl i, .bl j => some (decide (i = j))
  | .str i, .str j => some (decide (i = j))
  | .int _, .str _ => some false
  | .str _, .int _ => some false
  | .bl _, .str _ => some false
  | .str _, .bl _ => some false
  | _, _ => none
theorem eqS_ok {Hi : Hp} {x y : V} {dx dy : D} {b : Bool} (d1 : Den K Hi x dx) (d2 : Den K Hi y dy) (h : eqS dx dy = some b) : scal x y = true ∧ decide (x = y) = b := by
  cases d1 <;> cases d2 <;> first
    | (exact absurd (show (none : Option Bool) = some b from h) (fun z => nomatch z))
    | (refine ⟨rfl, ?_⟩
       have h' := Option.some.inj h
       subst h'
       first
         | rfl
         | (exact decide_eq_decide.mpr ⟨fun z => V.int.inj z, fun z => congrArg V.int z⟩)
         | (exact decide_eq_decide.mpr ⟨fun z => V.bl.inj z, fun z => congrArg V.bl z⟩)
         | (exact decide_eq_decide.mpr ⟨fun z => st_inj (V.str.inj z), fun z => congrArg (fun l => V.str (st l)) z⟩)
         | (exact decide_eq_false (fun z => nomatch z)))
def rEq' : R2' := fun x y Q => ∃ b, eqS x y = some b ∧ Q (.bl b)
def rNe' : R2' := fun x y Q => ∃ b, eqS x y = some b ∧ Q (.bl (!b))
/-- a sign in a text -/
def rInS (neg : Bool) : R2' := fun x y Q => ∃ c l, x = .str [c] ∧ y = .str l ∧ Q (.bl (if neg then !decide (c ∈ l) else decide (c ∈ l)))
theorem o_inS : Op2 X (compareOp .In) (rInS false) := ⟨_, op_in_str, by
  rintro Hi H x y dx dy Q Q2 s d1 d2 ⟨c, l, rfl, rfl, q⟩ fin
  refine ⟨_, _, d1.strI, d2.strI, ?_⟩
  rw [in_one]
  exact fin Hi H _ _ (Ext.refl s) (.bl _) q⟩
theorem o_notInS : Op2 X (compareOp .NotIn) (rInS true) := ⟨_, op_notin_str, by
  rintro Hi H x y dx dy Q Q2 s d1 d2 ⟨c, l, rfl, rfl, q⟩ fin
  refine ⟨_, _, d1.strI, d2.strI, ?_⟩
  rw [in_one]
  exact fin Hi H _ _ (Ext.refl s) (.bl _) q⟩
def rInR' (neg : Bool) : R2' := fun x y Q => ∃ i lo hi, x = .int i ∧ y = .rng lo hi ∧ Q (.bl (if neg then !decide (lo ≤ i ∧ i < hi) else decide (lo ≤ i ∧ i < hi)))
theorem o_notInR : Op2 X (compareOp .NotIn) (rInR' true) := ⟨_, op_notIn_rng, by
  rintro Hi H x y dx dy Q Q2 s d1 d2 ⟨i, lo, hi, rfl, rfl, q⟩ fin
  cases d2 with
  | rng h => exact ⟨i, _, lo, hi, d1.intI, rfl, rd_mono s.sub h, fin Hi H _ _ (Ext.refl s) (.bl _) q⟩⟩
/-- is None -/
def rIsN (neg : Bool) : R2' := fun x y Q => y = .non ∧ ∃ b : Bool, (b = true ↔ x = .non) ∧ Q (.bl (if neg then !b else b))
/-! ### indexes, slices -/
def rIx' : R2' := fun x y Q => ∃ i, y = .int i ∧ ((∃ ds d, x = .lst ds ∧ atI ds i = some d ∧ Q d) ∨ (∃ ds d, x = .tup ds ∧ atI ds i = some d ∧ Q d) ∨ ∃ l c, x = .str l ∧ l.length ≤ sizeLine ∧ atI l i = some c ∧ Q (.str [c]))
theorem atI_den {Hi : Hp} {vs : List V} {ds : List D} {i : Int} {d : D} (r : DenL K Hi vs ds) (h : atI ds i = some d) : ∃ v, atI vs i = some v ∧ Den K Hi v d := by
  unfold atI at h ⊢
  rw [paired_len r]
  cases e : ixN ds.length i with
  | none => rw [e] at h; cases h
  | some j =>
    rw [e] at h
    obtain ⟨v, h1, h2⟩ := paired_right r (show ds[j]? = some d from h)
    exact ⟨v, h1, h2⟩
theorem i_seq : Ixs X rIx' := ⟨_, ix_seq, by
  rintro Hi H x y dx dy Q Q2 s d1 d2 ⟨i, rfl, h⟩ fin
  rcases h with ⟨ds, d, rfl, e, q⟩ | ⟨ds, d, rfl, e, q⟩ | ⟨l, c, rfl, hl, e, q⟩
  · obtain ⟨a, vs, rfl, h1, h2⟩ := d1.lstI
    obtain ⟨v, h3, h4⟩ := atI_den h2 e
    exact .inl ⟨a, vs, i, v, rfl, d2.intI, sqL_mono s.sub h1, h3, fin Hi H _ _ (Ext.refl s) h4 q⟩
  · obtain ⟨a, vs, rfl, h1, h2⟩ := d1.tupI
    obtain ⟨v, h3, h4⟩ := atI_den h2 e
    exact .inr (.inl ⟨a, vs, i, v, rfl, d2.intI, sqT_mono s.sub h1, h3, fin Hi H _ _ (Ext.refl s) h4 q⟩)
  · refine .inr (.inr ⟨_, i, c, d1.strI, d2.intI, by rw [st_len]; exact hl, by rw [st_list]; exact e, fin Hi H _ _ (Ext.refl s) (.str [c]) q⟩)⟩
/-- x[lo:hi], lo and hi counted from the begin -/
def cutD {α : Type} (xs : List α) (lo hi : Option Int) : List α := (xs.drop (HT.sIx xs.length 0 lo)).take (HT.sIx xs.length xs.length hi - HT.sIx xs.length 0 lo)
def rSlS' : RS' := fun x lo hi Q => ∃ l, x = .str l ∧ l.length ≤ sizeLine ∧ ((lo = none ∧ ∃ n, hi = some n ∧ 0 ≤ n ∧ Q (.str (l.take n.toNat))) ∨ (hi = none ∧ ∃ n, lo = some n ∧ 0 ≤ n ∧ Q (.str (l.drop n.toNat))))
theorem s_str : Sli X rSlS' := ⟨_, sl_str, by
  rintro Hi H x dx lo hi Q Q2 s d1 ⟨l, rfl, hl, h⟩ fin
  refine ⟨st l, d1.strI, by rw [st_len]; exact hl, ?_⟩
  rcases h with ⟨rfl, n, rfl, hn, q⟩ | ⟨rfl, n, rfl, hn, q⟩
  · obtain ⟨m, rfl⟩ := Int.eq_ofNat_of_zero_le hn
    rw [slice_to]
    exact fin Hi H _ _ (Ext.refl s) (.str _) q
  · obtain ⟨m, rfl⟩ := Int.eq_ofNat_of_zero_le hn
    rw [slice_from]
    exact fin Hi H _ _ (Ext.refl s) (.str _) q⟩
def rSlT' : RS' := fun x lo hi Q => ∃ ds, x = .tup ds ∧ Q (.tup (cutD ds lo hi))
def rSlL' : RS' := fun x lo hi Q => ∃ ds, x = .lst ds ∧ Q (.lst (cutD ds lo hi))
theorem cut_den {Hi : Hp} {vs : List V} {ds : List D} {lo hi : Option Int} (r : DenL K Hi vs ds) : DenL K Hi (cutV vs lo hi) (cutD ds lo hi) := by
  unfold cutV cutD
  rw [paired_len r]
  exact paired_take _ (paired_drop _ r)
theorem s_list : Sli X rSlL' := ⟨_, sl_list, by
  rintro Hi H x dx lo hi Q Q2 s d1 ⟨ds, rfl, q⟩ fin
  obtain ⟨a, vs, rfl, h1, h2⟩ := d1.lstI
  refine ⟨a, vs, rfl, sqL_mono s.sub h1, fun p hp => ?_⟩
  have e := Ext.new s hp (.lst (cutV vs lo hi))
  exact fin _ _ _ _ e (Den.mkL (SqL.of upd_same) (cut_den (h2.mono e.hi))) q⟩
/-! ### calls by value -/
def rLen' : RC' := fun ds Q => ∃ d, ds = [d] ∧ ((∃ l, d = .str l ∧ l.length ≤ sizeLine ∧ Q (.int (l.length : Nat))) ∨ (∃ es, d = .lst es ∧ Q (.int (es.length : Nat))) ∨ ∃ es, d = .tup es ∧ Q (.int (es.length : Nat)))
theorem c_len : Cal X (.builtin "len") rLen' := ⟨_, call_len_str.or call_len_seq, by
  rintro Hi H vs ds Q Q2 s dl ⟨d, rfl, h⟩ fin
  obtain ⟨v, rfl, den⟩ := denL1 dl
  rcases h with ⟨l, rfl, hl, q⟩ | ⟨es, rfl, q⟩ | ⟨es, rfl, q⟩
  · refine .inl ⟨_, by rw [den.strI], by rw [st_len]; exact hl, ?_⟩
    rw [st_len]
    exact fin Hi H _ _ (Ext.refl s) (.int _) q
  · obtain ⟨a, us, rfl, h1, h2⟩ := den.lstI
    refine .inr ⟨a, us, rfl, .inl (sqL_mono s.sub h1), ?_⟩
    rw [paired_len h2]
    exact fin Hi H _ _ (Ext.refl s) (.int _) q
  · obtain ⟨a, us, rfl, h1, h2⟩ := den.tupI
    refine .inr ⟨a, us, rfl, .inr (sqT_mono s.sub h1), ?_⟩
    rw [paired_len h2]
    exact fin Hi H _ _ (Ext.refl s) (.int _) q⟩
def rIntS : RC' := fun ds Q => ∃ l n, ds = [.str l] ∧ PySem.intText? (st l) = some n ∧ l.length ≤ 640 ∧ Q (.int n)
def numT (i : Int) : List Nat := (Str.ofString (toString i)).cps.toList
def rStrI : RC' := fun ds Q => ∃ i, ds = [.int i] ∧ i.natAbs.log2 < 1920 ∧ Q (.str (numT i))
theorem c_str : Cal X (.type "str") rStrI := ⟨_, call_str_int, by
  rintro Hi H vs ds Q Q2 s dl ⟨i, rfl, hl, q⟩ fin
  obtain ⟨v, rfl, den⟩ := denL1 dl
  refine ⟨i, by rw [den.intI], hl, ?_⟩
  refine fin Hi H _ (.str (numT i)) (Ext.refl s) ?_ q
  have e : (V.str (toString i)) = .str (st (numT i)) := by
    unfold numT
    rw [← st_of]
  rw [e]
  exact .str _⟩
def rMin2 : RC' := fun ds Q => ∃ i j, ds = [.int i, .int j] ∧ Q (.int (if j < i then j else i))
theorem c_min2 (hc : X.calm = true) : Cal X (.builtin "min") rMin2 := ⟨_, call_min2 hc, by
  rintro Hi H vs ds Q Q2 s dl ⟨i, j, rfl, q⟩ fin
  obtain ⟨v, w, rfl, d1, d2⟩ := denL2 dl
  exact ⟨i, j, by rw [d1.intI, d2.intI], fin Hi H _ _ (Ext.refl s) (.int _) q⟩⟩
def rMax2 : RC' := fun ds Q => ∃ i j, ds = [.int i, .int j] ∧ Q (.int (if j > i then j else i))
def rOrd : RC' := fun ds Q => ∃ c : Nat, ds = [.str [c]] ∧ Q (.int c)
def rAll : RC' := fun ds Q => ∃ bs : List Bool, ds = [.lst (bs.map .bl)] ∧ Q (.bl (bs.all id))
def rAny : RC' := fun ds Q => ∃ bs : List Bool, ds = [.lst (bs.map .bl)] ∧ Q (.bl (bs.any id))
def rTupOf : RC' := fun ds Q => ∃ d es, ds = [d] ∧ (d = .lst es ∨ d = .tup es) ∧ Q (.tup es)
theorem c_tuple : Cal X (.type "tuple") rTupOf := ⟨_, call_tuple_of, by
  rintro Hi H vs ds Q Q2 s dl ⟨d, es, rfl, h, q⟩ fin
  obtain ⟨v, rfl, den⟩ := denL1 dl
  rcases h with rfl | rfl
  · obtain ⟨a, us, rfl, h1, h2⟩ := den.lstI
    refine ⟨a, us, rfl, .inl ⟨sqL_mono s.sub h1, fun l hl => ?_⟩⟩
    have e := Ext.new s hl (.tup us)
    exact fin _ _ _ _ e (Den.mkT upd_same (h2.mono e.hi)) q
  · obtain ⟨a, us, rfl, h1, h2⟩ := den.tupI
    exact ⟨a, us, rfl, .inr ⟨sqT_mono s.sub h1, fin Hi H _ _ (Ext.refl s) den q⟩⟩⟩
def rRng2 : RC' := fun ds Q => ∃ i j, ds = [.int i, .int j] ∧ Q (.rng i j)
/-- the kind of a datum -/
def kindD : D → Option String
  | .non => some "NoneType"
  | .bl _ => some "bool"
  | .int _ => some "int"
  | .str _ => some "str"
  | .lst _ => some "list"
  | .tup _ => some "tuple"
  | .dic _ => some "dict"
  | _ => none
theorem kindD_ok {Hi H : Hp} {x : V} {d : D} {t : String} (s : Same Hi H) (den : Den K Hi x d) (h : kindD d = some t) : KindV K H x t := by
  cases den with
  | non => exact (Option.some.inj h).symm
  | bl b => exact (Option.some.inj h).symm
  | int i => exact (Option.some.inj h).symm
  | str l => exact (Option.some.inj h).symm
  | ty n => cases h
  | rng h' => cases h
  | tup hq l r => exact .inr (.inl ⟨(Option.some.inj h).symm, _, SqT.of (s _ _ hq)⟩)
  | lst hq l r => exact .inl ⟨(Option.some.inj h).symm, _, sqL_mono s hq⟩
  | dicK hq l r r2 => exact .inr (.inr ⟨(Option.some.inj h).symm, .inl ⟨_, rd_mono s hq⟩⟩)
  | dicT hq l r r2 => cases h
  | cls C => cases h
  | obj hq l r r2 => cases h
def rIsi (K : PySem.W.Frag) : RC' := fun ds Q => ∃ d c t b, ds = [d, .ty c] ∧ kindD d = some t ∧ PySem.W.kitOne K (.type t) (.type c) = some b ∧ Q (.bl b)
/-! ### methods by value -/
def rRstrip : RM' := fun x ds Q => ∃ l y, x = .str l ∧ ds = [.str y] ∧ l.length ≤ sizeLine ∧ Q (.str (Txt.rstripChars (st l) (st y)).cps.toList)
def rRjust : RM' := fun x ds Q => ∃ l n c, x = .str l ∧ ds = [.int n, .str [c]] ∧ 0 ≤ n ∧ n ≤ 1000 ∧ Q (.str (List.replicate (n.toNat - l.length) c ++ l))
end
end PL

namespace PL
open PySem L2
section
variable {X : Cx} {a b c : Expr} {pos : Pos} {ta tb tc : TE'}
/-! ### a op b op c -/
def tChain' (r r' : R2') (ta tb tc : TE') : TE' := fun Γ Q => ta Γ fun x Γ1 => tb Γ1 fun y Γ2 => r x y fun z => ∃ k, z = .bl k ∧ (if k = true then tc Γ2 fun w Γ3 => r' y w fun d => Q d Γ3 else Q (.bl false) Γ2)
/-! ### operations of every kind -/
def rAdd' : R2' := fun x y Q => (∃ i j, x = .int i ∧ y = .int j ∧ Q (.int (i + j))) ∨ rAddS x y Q
theorem o_Add : Op2 X (binaryOp .Add) rAdd' := o_add.or o_adds
def rNotIn' : R2' := fun x y Q => rInS true x y Q ∨ rInR' true x y Q
theorem o_NotIn : Op2 X (compareOp .NotIn) rNotIn' := o_notInS.or o_notInR
end
/-! ### defs -/
/-- a def of the text, as it stands behind the top -/
structure Df (K : PySem.W.Frag) (mg : Str → Option Value) (x : Str) (st : Stmt) (ps : List Str) : Prop where
  ex : ∃ f fd, Fun K x x st f fd ∧ Binds K fd ps [] ∧ mg x = some (.ref f)
/-- what it promises -/
structure Fn (P : Program) (w : World) (K : PySem.W.Frag) (mg : Str → Option Value) (base : Heap) (k : Nat) (x : Str) (ps : List Str) (sp : Sp') : Prop where
  ex : ∃ f fd, FnOk P w K mg base CX0 k f fd ps (spOf K sp) ∧ Binds K fd ps [] ∧ PySem.W.keepIn K (.ref f) = true ∧ mg x = some (.ref f) ∧ ∃ oc od osl, K.lookup f = some ⟨oc, od, .func fd, osl⟩
section
variable {P : Program} {w : World} {K : PySem.W.Frag} {mg : Str → Option Value} {base : Heap} {k : Nat} {x : Str} {ps : List Str} {sp : Sp'}
theorem Df.ok {st : Stmt} {N : List Str} (d : Df K mg x st ps) (S : FnScope N ps (defScope st)) (len : ∀ ds Q, sp ds Q → ds.length = ps.length)
    (hbody : ∀ (f : Addr) (cdv : Value) (A : Around) (outer : List Env) (s : Shared) (H : Hp) (E : XK), Room k (A.deeper (PyProof.Rows.envOfC x (defScope st) s.heap.objs.size f cdv)) → ∀ ds Q, sp ds Q →
      ∃ t, PSs' (cxOf CX0 P w K mg base N x (defScope st) f cdv A outer s H E).nox (defBody st) t ∧ t { nx := fun _ => Q (.val .non), rt := fun r _ => Q r } (start' N ds)) : Fn P w K mg base (k + 1) x ps sp := by
  obtain ⟨f, fd, F, b, m⟩ := d.ex
  obtain ⟨oc, od, kV, doc, pm, an, cdv, ct, osl, e, lk, _⟩ := F.ex
  exact ⟨f, fd, PL.Fun.ok' F S len (hbody f), b, F.kp, m, oc, od, osl, lk⟩
end
section
variable {X : Cx} {k : Nat} {x : Str} {ps : List Str} {sp : Sp'} {p pos : Pos} {e : Expr} {es : List Expr} {t : TA'}
theorem pe_fn (h : Fn X.prog X.w X.K X.mg X.base k x ps sp) (hr : Room k X.A) (ha : PA' X (e :: es) t) (hg : Gl X x := by rfl) (hdb : (x == ("__debug__" : Str)) = false := by decide) :
    PE' X (.Call (.Name x p) (e :: es) [] pos) (tCall' sp t) := by
  obtain ⟨f, fd, F, b, kp, m, _⟩ := h.ex
  exact pe_call' F hr m kp b ha hg hdb
end
end PL
namespace PL
open PySem L2
section
variable {X : Cx} {pos : Pos}
def rSl' : RS' := fun x lo hi Q => rSlS' x lo hi Q ∨ rSlL' x lo hi Q
theorem s_sl : Sli X rSl' := s_str.or s_list
/-- a dict of one written pair -/
def tDict1 (k d : D) : TO' := fun Γ Q => Q (.dic [(k, d)]) Γ
end
end PL

namespace PL
open PySem L2
/-! ### how the readings come out -/
@[simp] theorem ex2 {α β : Type} {x : α} {y : β} {P : α → β → Prop} : (∃ a b, (x = a ∧ y = b) ∧ P a b) ↔ P x y := ⟨fun ⟨_, _, ⟨e1, e2⟩, h⟩ => e1 ▸ e2 ▸ h, fun h => ⟨x, y, ⟨rfl, rfl⟩, h⟩⟩
@[simp] theorem ex3 {α β γ : Type} {x : α} {y : β} {z : γ} {P : α → β → γ → Prop} : (∃ a b c, (x = a ∧ y = b ∧ z = c) ∧ P a b c) ↔ P x y z := ⟨fun ⟨_, _, _, ⟨e1, e2, e3⟩, h⟩ => e1 ▸ e2 ▸ e3 ▸ h, fun h => ⟨x, y, z, ⟨rfl, rfl, rfl⟩, h⟩⟩
@[simp] theorem toD_val (d : D) : (Res.val d).toD = d := rfl
@[simp] theorem toD_own (o : OD) : (Res.own o).toD = o.toD := rfl
@[simp] theorem oD_lst (l : List D) : (OD.lst l).toD = .lst l := rfl
@[simp] theorem oD_dic (l : List (D × D)) : (OD.dic l).toD = .dic l := rfl
@[simp] theorem oD_dit (l : List (D × D)) : (OD.dit l).toD = .dit l := rfl
@[simp] theorem start_def (N : List Str) (ds : List D) : start' N ds = ds.map .val ++ List.replicate (N.length - ds.length) .emp := rfl
@[simp] theorem voS_val (d : D) : voS (.val d) = .val d := rfl
@[simp] theorem voS_emp : voS .emp = .emp := rfl
@[simp] theorem voS_own (o : OD) : voS (.own o) = .emp := rfl
@[simp] theorem vo_nil : vo [] = [] := rfl
@[simp] theorem vo_cons (s : Slot) (Γ : Sts) : vo (s :: Γ) = voS s :: vo Γ := rfl
@[simp] theorem seqD_lst (ds : List D) : seqD (.lst ds) = some ds := rfl
@[simp] theorem seqD_tup (ds : List D) : seqD (.tup ds) = some ds := rfl
@[simp] theorem seqD_str (l : List Nat) : seqD (.str l) = some (l.map fun c => .str [c]) := rfl
@[simp] theorem blk_nil (Γ : Sts) : blkΓ [] Γ = [] := rfl
@[simp] theorem blk_none (src : List (Option Nat)) (Γ : Sts) : blkΓ (none :: src) Γ = .emp :: blkΓ src Γ := rfl
@[simp] theorem blk_some (i : Nat) (src : List (Option Nat)) (Γ : Sts) : blkΓ (some i :: src) Γ = (match Γ[i]? with | some (.val d) => .val d | _ => .emp) :: blkΓ src Γ := rfl
@[simp] theorem compD_nil (g : TG') (tc : TT') (te : TE') (Q : List D → Prop) (acc : List D) (Γ : Sts) : CompD g tc te Q [] acc Γ ↔ Q acc := Iff.rfl
@[simp] theorem forD_nil (g : TG') (tb : TS') (N : Ends') (Γ : Sts) : ForD g tb N [] Γ ↔ N.nx Γ := Iff.rfl
theorem forD_cons (g : TG') (tb : TS') (N : Ends') (d : D) (ds : List D) (Γ : Sts) : ForD g tb N (d :: ds) Γ ↔ g d Γ fun Γ2 => tb { N with nx := ForD g tb N ds, ct := ForD g tb N ds, bk := N.nx } Γ2 := Iff.rfl
section
variable {Q : D → Prop}
@[simp] theorem rI0_at (g : Int → Int → D) (i j : Int) : rI0' g (.int i) (.int j) Q ↔ Q (g i j) := by simp [rI0']
@[simp] theorem rI_at (C : Int → Int → Prop) (g : Int → Int → D) (i j : Int) : rI' C g (.int i) (.int j) Q ↔ C i j ∧ Q (g i j) := by simp [rI']
@[simp] theorem rAdd_int (i j : Int) : rAdd' (.int i) (.int j) Q ↔ Q (.int (i + j)) := by simp [rAdd', rAddS]
@[simp] theorem rAdd_str (l m : List Nat) : rAdd' (.str l) (.str m) Q ↔ l.length + m.length ≤ sizeLine ∧ Q (.str (l ++ m)) := by simp [rAdd', rAddS]
@[simp] theorem eqS_int (i j : Int) : eqS (.int i) (.int j) = some (decide (i = j)) := rfl
@[simp] theorem eqS_str (i j : List Nat) : eqS (.str i) (.str j) = some (decide (i = j)) := rfl
@[simp] theorem eqS_bl (i j : Bool) : eqS (.bl i) (.bl j) = some (decide (i = j)) := rfl
@[simp] theorem eqS_non : eqS .non .non = some true := rfl
@[simp] theorem eqS_non_str (i : List Nat) : eqS .non (.str i) = some false := rfl
@[simp] theorem eqS_non_int (i : Int) : eqS .non (.int i) = some false := rfl
@[simp] theorem eqS_str_non (i : List Nat) : eqS (.str i) .non = some false := rfl
@[simp] theorem eqS_int_non (i : Int) : eqS (.int i) .non = some false := rfl
@[simp] theorem rEq_of (x y : D) (b : Bool) (h : eqS x y = some b) : rEq' x y Q ↔ Q (.bl b) := by simp [rEq', h]
@[simp] theorem rEq_int (i j : Int) : rEq' (.int i) (.int j) Q ↔ Q (.bl (decide (i = j))) := by simp [rEq']
@[simp] theorem rEq_str (i j : List Nat) : rEq' (.str i) (.str j) Q ↔ Q (.bl (decide (i = j))) := by simp [rEq']
@[simp] theorem rEq_bl (i j : Bool) : rEq' (.bl i) (.bl j) Q ↔ Q (.bl (decide (i = j))) := by simp [rEq']
@[simp] theorem rNe_int (i j : Int) : rNe' (.int i) (.int j) Q ↔ Q (.bl (!decide (i = j))) := by simp [rNe']
@[simp] theorem rNe_str (i j : List Nat) : rNe' (.str i) (.str j) Q ↔ Q (.bl (!decide (i = j))) := by simp [rNe']
@[simp] theorem rNe_bl (i j : Bool) : rNe' (.bl i) (.bl j) Q ↔ Q (.bl (!decide (i = j))) := by simp [rNe']
@[simp] theorem rInS_at (c : Nat) (l : List Nat) : rInS false (.str [c]) (.str l) Q ↔ Q (.bl (decide (c ∈ l))) := by simp [rInS]
@[simp] theorem rNotIn_str (c : Nat) (l : List Nat) : rNotIn' (.str [c]) (.str l) Q ↔ Q (.bl (!decide (c ∈ l))) := by simp [rNotIn', rInS, rInR']
@[simp] theorem rNotIn_rng (i lo hi : Int) : rNotIn' (.int i) (.rng lo hi) Q ↔ Q (.bl (!decide (lo ≤ i ∧ i < hi))) := by simp [rNotIn', rInS, rInR']
@[simp] theorem rIx_lst (ds : List D) (i : Int) : rIx' (.lst ds) (.int i) Q ↔ ∃ d, atI ds i = some d ∧ Q d := by simp [rIx']
@[simp] theorem rIx_tup (ds : List D) (i : Int) : rIx' (.tup ds) (.int i) Q ↔ ∃ d, atI ds i = some d ∧ Q d := by simp [rIx']
@[simp] theorem rIx_str (l : List Nat) (i : Int) : rIx' (.str l) (.int i) Q ↔ l.length ≤ sizeLine ∧ ∃ c, atI l i = some c ∧ Q (.str [c]) := by simp [rIx']
@[simp] theorem rSl_to (l : List Nat) (n : Int) : rSl' (.str l) none (some n) Q ↔ l.length ≤ sizeLine ∧ 0 ≤ n ∧ Q (.str (l.take n.toNat)) := by simp [rSl', rSlS', rSlL']
@[simp] theorem rSl_from (l : List Nat) (n : Int) : rSl' (.str l) (some n) none Q ↔ l.length ≤ sizeLine ∧ 0 ≤ n ∧ Q (.str (l.drop n.toNat)) := by simp [rSl', rSlS', rSlL']
@[simp] theorem rSl_lst (ds : List D) (lo hi : Option Int) : rSl' (.lst ds) lo hi Q ↔ Q (.lst (cutD ds lo hi)) := by simp [rSl', rSlS', rSlL']
@[simp] theorem rLen_str (l : List Nat) : rLen' [.str l] Q ↔ l.length ≤ sizeLine ∧ Q (.int (l.length : Nat)) := by simp [rLen']
@[simp] theorem rLen_lst (l : List D) : rLen' [.lst l] Q ↔ Q (.int (l.length : Nat)) := by simp [rLen']
@[simp] theorem rLen_tup (l : List D) : rLen' [.tup l] Q ↔ Q (.int (l.length : Nat)) := by simp [rLen']
@[simp] theorem rMin_at (i j : Int) : rMin2 [.int i, .int j] Q ↔ Q (.int (if j < i then j else i)) := by simp [rMin2]
@[simp] theorem rMax_at (i j : Int) : rMax2 [.int i, .int j] Q ↔ Q (.int (if j > i then j else i)) := by simp [rMax2]
@[simp] theorem rOrd_at (c : Nat) : rOrd [.str [c]] Q ↔ Q (.int c) := by simp [rOrd]
@[simp] theorem rStr_at (i : Int) : rStrI [.int i] Q ↔ i.natAbs.log2 < 1920 ∧ Q (.str (numT i)) := by simp [rStrI]
@[simp] theorem rTup_lst (ds : List D) : rTupOf [.lst ds] Q ↔ Q (.tup ds) := by simp [rTupOf]
@[simp] theorem rTup_tup (ds : List D) : rTupOf [.tup ds] Q ↔ Q (.tup ds) := by simp [rTupOf]
@[simp] theorem rRng_at (i j : Int) : rRng2 [.int i, .int j] Q ↔ Q (.rng i j) := by simp [rRng2]
@[simp] theorem rRstrip_at (l y : List Nat) : rRstrip (.str l) [.str y] Q ↔ l.length ≤ sizeLine ∧ Q (.str (Txt.rstripChars (st l) (st y)).cps.toList) := by simp [rRstrip]
@[simp] theorem rRjust_at (l : List Nat) (n : Int) (c : Nat) : rRjust (.str l) [.int n, .str [c]] Q ↔ 0 ≤ n ∧ n ≤ 1000 ∧ Q (.str (List.replicate (n.toNat - l.length) c ++ l)) := by simp [rRjust]
@[simp] theorem tyD_str (l : List Nat) : tyD "str" (.str l) ↔ True := by simp [tyD]
@[simp] theorem tyD_lst (l : List D) : tyD "list" (.lst l) ↔ True := by simp [tyD]
end
/-- isinstance, of the built-in kinds -/
@[simp] theorem kit_NoneType_str (K : PySem.W.Frag) : PySem.W.kitOne K (.type "NoneType") (.type "str") = some false := by rfl
@[simp] theorem kit_bool_str (K : PySem.W.Frag) : PySem.W.kitOne K (.type "bool") (.type "str") = some false := by rfl
@[simp] theorem kit_int_str (K : PySem.W.Frag) : PySem.W.kitOne K (.type "int") (.type "str") = some false := by rfl
@[simp] theorem kit_str_str (K : PySem.W.Frag) : PySem.W.kitOne K (.type "str") (.type "str") = some true := by rfl
@[simp] theorem kit_list_str (K : PySem.W.Frag) : PySem.W.kitOne K (.type "list") (.type "str") = some false := by rfl
@[simp] theorem kit_tuple_str (K : PySem.W.Frag) : PySem.W.kitOne K (.type "tuple") (.type "str") = some false := by rfl
@[simp] theorem kit_dict_str (K : PySem.W.Frag) : PySem.W.kitOne K (.type "dict") (.type "str") = some false := by rfl
@[simp] theorem kit_NoneType_bool (K : PySem.W.Frag) : PySem.W.kitOne K (.type "NoneType") (.type "bool") = some false := by rfl
@[simp] theorem kit_bool_bool (K : PySem.W.Frag) : PySem.W.kitOne K (.type "bool") (.type "bool") = some true := by rfl
@[simp] theorem kit_int_bool (K : PySem.W.Frag) : PySem.W.kitOne K (.type "int") (.type "bool") = some false := by rfl
@[simp] theorem kit_str_bool (K : PySem.W.Frag) : PySem.W.kitOne K (.type "str") (.type "bool") = some false := by rfl
@[simp] theorem kit_list_bool (K : PySem.W.Frag) : PySem.W.kitOne K (.type "list") (.type "bool") = some false := by rfl
@[simp] theorem kit_tuple_bool (K : PySem.W.Frag) : PySem.W.kitOne K (.type "tuple") (.type "bool") = some false := by rfl
@[simp] theorem kit_dict_bool (K : PySem.W.Frag) : PySem.W.kitOne K (.type "dict") (.type "bool") = some false := by rfl
@[simp] theorem kit_NoneType_int (K : PySem.W.Frag) : PySem.W.kitOne K (.type "NoneType") (.type "int") = some false := by rfl
@[simp] theorem kit_bool_int (K : PySem.W.Frag) : PySem.W.kitOne K (.type "bool") (.type "int") = some true := by rfl
@[simp] theorem kit_int_int (K : PySem.W.Frag) : PySem.W.kitOne K (.type "int") (.type "int") = some true := by rfl
@[simp] theorem kit_str_int (K : PySem.W.Frag) : PySem.W.kitOne K (.type "str") (.type "int") = some false := by rfl
@[simp] theorem kit_list_int (K : PySem.W.Frag) : PySem.W.kitOne K (.type "list") (.type "int") = some false := by rfl
@[simp] theorem kit_tuple_int (K : PySem.W.Frag) : PySem.W.kitOne K (.type "tuple") (.type "int") = some false := by rfl
@[simp] theorem kit_dict_int (K : PySem.W.Frag) : PySem.W.kitOne K (.type "dict") (.type "int") = some false := by rfl
@[simp] theorem kit_NoneType_list (K : PySem.W.Frag) : PySem.W.kitOne K (.type "NoneType") (.type "list") = some false := by rfl
@[simp] theorem kit_bool_list (K : PySem.W.Frag) : PySem.W.kitOne K (.type "bool") (.type "list") = some false := by rfl
@[simp] theorem kit_int_list (K : PySem.W.Frag) : PySem.W.kitOne K (.type "int") (.type "list") = some false := by rfl
@[simp] theorem kit_str_list (K : PySem.W.Frag) : PySem.W.kitOne K (.type "str") (.type "list") = some false := by rfl
@[simp] theorem kit_list_list (K : PySem.W.Frag) : PySem.W.kitOne K (.type "list") (.type "list") = some true := by rfl
@[simp] theorem kit_tuple_list (K : PySem.W.Frag) : PySem.W.kitOne K (.type "tuple") (.type "list") = some false := by rfl
@[simp] theorem kit_dict_list (K : PySem.W.Frag) : PySem.W.kitOne K (.type "dict") (.type "list") = some false := by rfl
@[simp] theorem kit_NoneType_tuple (K : PySem.W.Frag) : PySem.W.kitOne K (.type "NoneType") (.type "tuple") = some false := by rfl
@[simp] theorem kit_bool_tuple (K : PySem.W.Frag) : PySem.W.kitOne K (.type "bool") (.type "tuple") = some false := by rfl
@[simp] theorem kit_int_tuple (K : PySem.W.Frag) : PySem.W.kitOne K (.type "int") (.type "tuple") = some false := by rfl
@[simp] theorem kit_str_tuple (K : PySem.W.Frag) : PySem.W.kitOne K (.type "str") (.type "tuple") = some false := by rfl
@[simp] theorem kit_list_tuple (K : PySem.W.Frag) : PySem.W.kitOne K (.type "list") (.type "tuple") = some false := by rfl
@[simp] theorem kit_tuple_tuple (K : PySem.W.Frag) : PySem.W.kitOne K (.type "tuple") (.type "tuple") = some true := by rfl
@[simp] theorem kit_dict_tuple (K : PySem.W.Frag) : PySem.W.kitOne K (.type "dict") (.type "tuple") = some false := by rfl
@[simp] theorem kit_NoneType_dict (K : PySem.W.Frag) : PySem.W.kitOne K (.type "NoneType") (.type "dict") = some false := by rfl
@[simp] theorem kit_bool_dict (K : PySem.W.Frag) : PySem.W.kitOne K (.type "bool") (.type "dict") = some false := by rfl
@[simp] theorem kit_int_dict (K : PySem.W.Frag) : PySem.W.kitOne K (.type "int") (.type "dict") = some false := by rfl
@[simp] theorem kit_str_dict (K : PySem.W.Frag) : PySem.W.kitOne K (.type "str") (.type "dict") = some false := by rfl
@[simp] theorem kit_list_dict (K : PySem.W.Frag) : PySem.W.kitOne K (.type "list") (.type "dict") = some false := by rfl
@[simp] theorem kit_tuple_dict (K : PySem.W.Frag) : PySem.W.kitOne K (.type "tuple") (.type "dict") = some false := by rfl
@[simp] theorem kit_dict_dict (K : PySem.W.Frag) : PySem.W.kitOne K (.type "dict") (.type "dict") = some true := by rfl
section
variable {Q : D → Prop}
@[simp] theorem rIsi_non (K : PySem.W.Frag) (c : String) : rIsi K [.non, .ty c] Q ↔ ∃ b, PySem.W.kitOne K (.type "NoneType") (.type c) = some b ∧ Q (.bl b) := by simp [rIsi, kindD]
@[simp] theorem rIsi_bl (K : PySem.W.Frag) (c : String) (x : Bool) : rIsi K [.bl x, .ty c] Q ↔ ∃ b, PySem.W.kitOne K (.type "bool") (.type c) = some b ∧ Q (.bl b) := by simp [rIsi, kindD]
@[simp] theorem rIsi_int (K : PySem.W.Frag) (c : String) (x : Int) : rIsi K [.int x, .ty c] Q ↔ ∃ b, PySem.W.kitOne K (.type "int") (.type c) = some b ∧ Q (.bl b) := by simp [rIsi, kindD]
@[simp] theorem rIsi_str (K : PySem.W.Frag) (c : String) (x : List Nat) : rIsi K [.str x, .ty c] Q ↔ ∃ b, PySem.W.kitOne K (.type "str") (.type c) = some b ∧ Q (.bl b) := by simp [rIsi, kindD]
@[simp] theorem rIsi_lst (K : PySem.W.Frag) (c : String) (x : List D) : rIsi K [.lst x, .ty c] Q ↔ ∃ b, PySem.W.kitOne K (.type "list") (.type c) = some b ∧ Q (.bl b) := by simp [rIsi, kindD]
@[simp] theorem rIsi_tup (K : PySem.W.Frag) (c : String) (x : List D) : rIsi K [.tup x, .ty c] Q ↔ ∃ b, PySem.W.kitOne K (.type "tuple") (.type c) = some b ∧ Q (.bl b) := by simp [rIsi, kindD]
@[simp] theorem rIsi_dic (K : PySem.W.Frag) (c : String) (x : List (D × D)) : rIsi K [.dic x, .ty c] Q ↔ ∃ b, PySem.W.kitOne K (.type "dict") (.type c) = some b ∧ Q (.bl b) := by simp [rIsi, kindD]
end
end PL

namespace PL
open PySem L2
/-! ### the readings are monotone -/
class ME (t : TE') : Prop where
  mono : ∀ Γ Q Q', (∀ d Γ', Q d Γ' → Q' d Γ') → t Γ Q → t Γ Q'
class MT (t : TT') : Prop where
  mono : ∀ Γ Q Q', (∀ d Γ', Q d Γ' → Q' d Γ') → t Γ Q → t Γ Q'
class MA (t : TA') : Prop where
  mono : ∀ Γ Q Q', (∀ d Γ', Q d Γ' → Q' d Γ') → t Γ Q → t Γ Q'
class MO (t : TO') : Prop where
  mono : ∀ Γ Q Q', (∀ d Γ', Q d Γ' → Q' d Γ') → t Γ Q → t Γ Q'
class MP (t : TP') : Prop where
  mono : ∀ Γ Q Q', (∀ d Γ', Q d Γ' → Q' d Γ') → t Γ Q → t Γ Q'
class MI (t : TI') : Prop where
  mono : ∀ Γ Q Q', (∀ d Γ', Q d Γ' → Q' d Γ') → t Γ Q → t Γ Q'
class MG (g : TG') : Prop where
  mono : ∀ d Γ Q Q', (∀ Γ', Q Γ' → Q' Γ') → g d Γ Q → g d Γ Q'
class MR2 (r : R2') : Prop where
  mono : ∀ x y Q Q', (∀ d, Q d → Q' d) → r x y Q → r x y Q'
class MRC (r : RC') : Prop where
  mono : ∀ x Q Q', (∀ d, Q d → Q' d) → r x Q → r x Q'
class MRM (r : RM') : Prop where
  mono : ∀ x y Q Q', (∀ d, Q d → Q' d) → r x y Q → r x y Q'
class MRS (r : RS') : Prop where
  mono : ∀ x y z Q Q', (∀ d, Q d → Q' d) → r x y z Q → r x y z Q'
class MSp (sp : Sp') : Prop where
  mono : ∀ x Q Q', (∀ d, Q d → Q' d) → sp x Q → sp x Q'
structure Ends'.le (N N' : Ends') : Prop where
  nx : ∀ Γ, N.nx Γ → N'.nx Γ
  rt : ∀ r Γ, N.rt r Γ → N'.rt r Γ
  bk : ∀ Γ, N.bk Γ → N'.bk Γ
  ct : ∀ Γ, N.ct Γ → N'.ct Γ
class MS (t : TS') : Prop where
  mono : ∀ N N' Γ, N.le N' → t N Γ → t N' Γ
instance {i : Nat} : ME (tVar' i) := ⟨fun _ _ _ h ⟨d, e, q⟩ => ⟨d, e, h _ _ q⟩⟩
instance {d : D} : ME (tC' d) := ⟨fun _ _ _ h q => h _ _ q⟩
instance {t : TO'} [MO t] : ME (tFrz t) := ⟨fun Γ _ _ h q => MO.mono (t := t) Γ _ _ (fun _ _ z => h _ _ z) q⟩
instance {r : R2'} {a b : TE'} [MR2 r] [ME a] [ME b] : ME (tOp' r a b) := ⟨fun Γ _ _ h q => ME.mono (t := a) Γ _ _ (fun _ _ z => ME.mono (t := b) _ _ _ (fun _ _ z => MR2.mono (r := r) _ _ _ _ (fun _ z => h _ _ z) z) z) q⟩
instance {r s : R2'} {a b c : TE'} [MR2 r] [MR2 s] [ME a] [ME b] [ME c] : ME (tChain' r s a b c) := ⟨fun Γ _ _ h q => ME.mono (t := a) Γ _ _ (fun _ _ z => ME.mono (t := b) _ _ _ (fun _ _ z => MR2.mono (r := r) _ _ _ _ (fun _ ⟨k, e, z⟩ => ⟨k, e, by
  cases k with
  | true => exact ME.mono (t := c) _ _ _ (fun _ _ z => MR2.mono (r := s) _ _ _ _ (fun _ z => h _ _ z) z) z
  | false => exact h _ _ z⟩) z) z) q⟩
instance {t : TE'} [ME t] : MT (tB' t) := ⟨fun Γ _ _ h q => ME.mono (t := t) Γ _ _ (fun _ _ ⟨b, e, z⟩ => ⟨b, e, h _ _ z⟩) q⟩
instance {t u : TT'} [MT t] [MT u] : MT (tAnd' t u) := ⟨fun Γ _ _ h q => MT.mono (t := t) Γ _ _ (fun b _ z => by
  cases b with
  | true => exact MT.mono (t := u) _ _ _ h z
  | false => exact h _ _ z) q⟩
instance {t u : TT'} [MT t] [MT u] : MT (tOr' t u) := ⟨fun Γ _ _ h q => MT.mono (t := t) Γ _ _ (fun b _ z => by
  cases b with
  | false => exact MT.mono (t := u) _ _ _ h z
  | true => exact h _ _ z) q⟩
instance {t : TT'} [MT t] : MT (tNot' t) := ⟨fun Γ _ _ h q => MT.mono (t := t) Γ _ _ (fun b _ z => h _ _ z) q⟩
instance : MT tYes := ⟨fun _ _ _ h q => h _ _ q⟩
instance {a b : TE'} [ME a] [ME b] : ME (tAndV' a b) := ⟨fun Γ _ _ h q => ME.mono (t := a) Γ _ _ (fun _ _ ⟨k, e, z⟩ => ⟨k, e, by
  cases k with
  | true => exact ME.mono (t := b) _ _ _ h z
  | false => exact h _ _ z⟩) q⟩
instance {a b : TE'} [ME a] [ME b] : ME (tOrV' a b) := ⟨fun Γ _ _ h q => ME.mono (t := a) Γ _ _ (fun _ _ ⟨k, e, z⟩ => ⟨k, e, by
  cases k with
  | false => exact ME.mono (t := b) _ _ _ h z
  | true => exact h _ _ z⟩) q⟩
instance {a : TE'} [ME a] : ME (tNotV' a) := ⟨fun Γ _ _ h q => ME.mono (t := a) Γ _ _ (fun _ _ ⟨k, e, z⟩ => ⟨k, e, h _ _ z⟩) q⟩
instance {t : TT'} {a b : TE'} [MT t] [ME a] [ME b] : ME (tIf' t a b) := ⟨fun Γ _ _ h q => MT.mono (t := t) Γ _ _ (fun k _ z => by
  cases k with
  | true => exact ME.mono (t := a) _ _ _ h z
  | false => exact ME.mono (t := b) _ _ _ h z) q⟩
instance : MA tNil' := ⟨fun _ _ _ h q => h _ _ q⟩
instance {a : TE'} {r : TA'} [ME a] [MA r] : MA (tCons' a r) := ⟨fun Γ _ _ h q => ME.mono (t := a) Γ _ _ (fun _ _ z => MA.mono (t := r) _ _ _ (fun _ _ z => h _ _ z) z) q⟩
instance {t : TA'} [MA t] : ME (tTup' t) := ⟨fun Γ _ _ h q => MA.mono (t := t) Γ _ _ (fun _ _ ⟨a, z⟩ => ⟨a, h _ _ z⟩) q⟩
instance {t : TA'} [MA t] : MO (tLst' t) := ⟨fun Γ _ _ h q => MA.mono (t := t) Γ _ _ (fun _ _ ⟨a, z⟩ => ⟨a, h _ _ z⟩) q⟩
instance {k d : D} : MO (tDict1 k d) := ⟨fun _ _ _ h q => h _ _ q⟩
instance {r : RC'} {t : TA'} [MRC r] [MA t] : ME (tCB' r t) := ⟨fun Γ _ _ h q => MA.mono (t := t) Γ _ _ (fun _ _ z => MRC.mono (r := r) _ _ _ (fun _ z => h _ _ z) z) q⟩
instance {T : String} {r : RM'} {o : TE'} {t : TA'} [MRM r] [ME o] [MA t] : ME (tBM' T r o t) := ⟨fun Γ _ _ h q => ME.mono (t := o) Γ _ _ (fun _ _ ⟨a, z⟩ => ⟨a, MA.mono (t := t) _ _ _ (fun _ _ z => MRM.mono (r := r) _ _ _ _ (fun _ z => h _ _ z) z) z⟩) q⟩
instance {T : String} {r : RM'} {o : TE'} [MRM r] [ME o] : ME (tBM0' T r o) := ⟨fun Γ _ _ h q => ME.mono (t := o) Γ _ _ (fun _ _ ⟨a, z⟩ => ⟨a, MRM.mono (r := r) _ _ _ _ (fun _ z => h _ _ z) z⟩) q⟩
instance : MP tNoB' := ⟨fun _ _ _ h q => h _ _ q⟩
instance {t : TE'} [ME t] : MP (tB1' t) := ⟨fun Γ _ _ h q => ME.mono (t := t) Γ _ _ (fun _ _ ⟨i, e, z⟩ => ⟨i, e, h _ _ z⟩) q⟩
instance {r : RS'} {e : TE'} {l u : TP'} [MRS r] [ME e] [MP l] [MP u] : ME (tSl' r e l u) := ⟨fun Γ _ _ h q => ME.mono (t := e) Γ _ _ (fun _ _ z => MP.mono (t := l) _ _ _ (fun _ _ z => MP.mono (t := u) _ _ _ (fun _ _ z => MRS.mono (r := r) _ _ _ _ _ (fun _ z => h _ _ z) z) z) z) q⟩
instance {sp : Sp'} {t : TA'} [MSp sp] [MA t] : ME (tCall' sp t) := ⟨fun Γ _ _ h q => MA.mono (t := t) Γ _ _ (fun _ _ z => MSp.mono (sp := sp) _ _ _ (fun _ z => h _ _ z) z) q⟩
instance {sp : Sp'} {t : TA'} [MSp sp] [MA t] : MO (tCallO' sp t) := ⟨fun Γ _ _ h q => MA.mono (t := t) Γ _ _ (fun _ _ z => MSp.mono (sp := sp) _ _ _ (fun _ ⟨o, e, z⟩ => ⟨o, e, h _ _ z⟩) z) q⟩
instance {t : TE'} [ME t] : MI (iSeq' t) := ⟨fun Γ _ _ h q => ME.mono (t := t) Γ _ _ (fun _ _ ⟨i, e, z⟩ => ⟨i, e, h _ _ z⟩) q⟩
instance {t : TA'} [MA t] : MI (iRng1' t) := ⟨fun Γ _ _ h q => MA.mono (t := t) Γ _ _ (fun _ _ ⟨i, e, a, b, z⟩ => ⟨i, e, a, b, h _ _ z⟩) q⟩
instance {t : TA'} [MA t] : MI (iRng2' t) := ⟨fun Γ _ _ h q => MA.mono (t := t) Γ _ _ (fun _ _ ⟨i, j, e, a, z⟩ => ⟨i, j, e, a, h _ _ z⟩) q⟩
instance {i : Nat} : MG (gName' i) := ⟨fun _ _ _ _ h q => h _ q⟩
theorem compD_mono {g : TG'} {tc : TT'} {te : TE'} [MG g] [MT tc] [ME te] {Q Q' : List D → Prop} (h : ∀ l, Q l → Q' l) : ∀ (ds acc : List D) (Γ : Sts), CompD g tc te Q ds acc Γ → CompD g tc te Q' ds acc Γ
  | [], acc, Γ, q => h acc q
  | d :: ds, acc, Γ, q => MG.mono (g := g) _ _ _ _ (fun Γ2 z => MT.mono (t := tc) _ _ _ (fun b Γ3 z => by
    cases b with
    | true => exact ME.mono (t := te) _ _ _ (fun y Γ4 z => compD_mono h ds _ _ z) z
    | false => exact compD_mono h ds _ _ z) z) q
instance {ti : TI'} {src : List (Option Nat)} {g : TG'} {tc : TT'} {te : TE'} [MI ti] [MG g] [MT tc] [ME te] : MO (tComp' ti src g tc te) := ⟨fun Γ _ _ h q => MI.mono (t := ti) Γ _ _ (fun ds Γ1 ⟨a, z⟩ => ⟨a, compD_mono (fun l => h _ _) _ _ _ z⟩) q⟩
/-! statements -/
theorem Ends'.le.nxt {N N' : Ends'} (h : N.le N') {P P' : Sts → Prop} (hp : ∀ Γ, P Γ → P' Γ) : Ends'.le { N with nx := P } { N' with nx := P' } := ⟨hp, h.rt, h.bk, h.ct⟩
instance : MS tNext' := ⟨fun _ _ _ h q => h.nx _ q⟩
instance : MS tBreak' := ⟨fun _ _ _ h q => h.bk _ q⟩
instance : MS tCont' := ⟨fun _ _ _ h q => h.ct _ q⟩
instance {t u : TS'} [MS t] [MS u] : MS (tSeq' t u) := ⟨fun N N' Γ h q => MS.mono (t := t) _ _ _ (h.nxt fun Γ' z => MS.mono (t := u) N N' Γ' h z) q⟩
instance {t : TE'} [ME t] : MS (tRet' t) := ⟨fun N N' Γ h q => ME.mono (t := t) _ _ _ (fun _ _ z => h.rt _ _ z) q⟩
instance {t : TO'} [MO t] : MS (tRetO' t) := ⟨fun N N' Γ h q => MO.mono (t := t) _ _ _ (fun _ _ z => h.rt _ _ z) q⟩
instance {n i : Nat} : MS (tRetV' n i) := ⟨fun N N' Γ h ⟨a, o, e, q⟩ => ⟨a, o, e, h.rt _ _ q⟩⟩
instance : MS tRetN' := ⟨fun N N' Γ h q => h.rt _ _ q⟩
instance {c : TT'} {t u : TS'} [MT c] [MS t] [MS u] : MS (tIfS' c t u) := ⟨fun N N' Γ h q => MT.mono (t := c) _ _ _ (fun b Γ1 z => by
  cases b with
  | true => exact MS.mono (t := t) N N' Γ1 h z
  | false => exact MS.mono (t := u) N N' Γ1 h z) q⟩
instance {t : TE'} [ME t] : MS (tDrop' t) := ⟨fun N N' Γ h q => ME.mono (t := t) _ _ _ (fun _ _ z => h.nx _ z) q⟩
instance {t : TE'} {g : TG'} [ME t] [MG g] : MS (tAsg' t g) := ⟨fun N N' Γ h q => ME.mono (t := t) _ _ _ (fun _ _ z => MG.mono (g := g) _ _ _ _ (fun _ z => h.nx _ z) z) q⟩
instance {t : TO'} {i : Nat} [MO t] : MS (tAsgO' t i) := ⟨fun N N' Γ h q => MO.mono (t := t) _ _ _ (fun _ _ z => h.nx _ z) q⟩
theorem forD_mono {g : TG'} {tb : TS'} [MG g] [MS tb] {N N' : Ends'} (h : N.le N') : ∀ (ds : List D) (Γ : Sts), ForD g tb N ds Γ → ForD g tb N' ds Γ
  | [], Γ, q => h.nx Γ q
  | d :: ds, Γ, q => MG.mono (g := g) _ _ _ _ (fun Γ2 z => MS.mono (t := tb) { N with nx := ForD g tb N ds, ct := ForD g tb N ds, bk := N.nx } { N' with nx := ForD g tb N' ds, ct := ForD g tb N' ds, bk := N'.nx } _ ⟨fun Γ3 z => forD_mono h ds Γ3 z, h.rt, h.nx, fun Γ3 z => forD_mono h ds Γ3 z⟩ z) q
instance {ti : TI'} {g : TG'} {tb : TS'} [MI ti] [MG g] [MS tb] : MS (tFor' ti g tb) := ⟨fun N N' Γ h q => MI.mono (t := ti) _ _ _ (fun ds Γ1 z => forD_mono h ds Γ1 z) q⟩
instance {c : TT'} {tb : TS'} [MT c] [MS tb] : MS (tWhile' c tb) := ⟨fun N N' Γ h ⟨Wv, w, q⟩ => ⟨Wv, w, fun m Γ1 z => MT.mono (t := c) _ _ _ (fun b Γ2 y => by
  cases b with
  | true => exact MS.mono (t := tb) { N with nx := fun Γ2 => ∃ m', m' < m ∧ Wv m' Γ2, ct := fun Γ2 => ∃ m', m' < m ∧ Wv m' Γ2, bk := N.nx } _ _ ⟨fun _ z => z, h.rt, h.nx, fun _ z => z⟩ y
  | false => exact h.nx _ y) (q m Γ1 z)⟩⟩
/-! ### cuts -/
/-- a loop, by what holds ahead of each turn -/
theorem for_inv {g : TG'} {tb : TS'} [MG g] [MS tb] {N : Ends'} (I : List D → Sts → Prop) (h0 : ∀ Γ, I [] Γ → N.nx Γ) (hs : ∀ d ds Γ, I (d :: ds) Γ → g d Γ fun Γ2 => tb { N with nx := I ds, ct := I ds, bk := N.nx } Γ2) :
    ∀ (ds : List D) (Γ : Sts), I ds Γ → ForD g tb N ds Γ
  | [], Γ, h => h0 Γ h
  | d :: ds, Γ, h => MG.mono (g := g) _ _ _ _ (fun Γ2 z => MS.mono (t := tb) { N with nx := I ds, ct := I ds, bk := N.nx } { N with nx := ForD g tb N ds, ct := ForD g tb N ds, bk := N.nx } _ ⟨fun Γ3 z => for_inv I h0 hs ds Γ3 z, fun _ _ z => z, fun _ z => z, fun Γ3 z => for_inv I h0 hs ds Γ3 z⟩ z) (hs d ds Γ h)
/-- .. by the number of turns done -/
theorem for_ix {g : TG'} {tb : TS'} [MG g] [MS tb] {N : Ends'} {ds : List D} {Γ : Sts} (I : Nat → Sts → Prop) (h : I 0 Γ) (hs : ∀ (i : Nat) d Γ, ds[i]? = some d → I i Γ → g d Γ fun Γ2 => tb { N with nx := I (i + 1), ct := I (i + 1), bk := N.nx } Γ2) (h0 : ∀ Γ, I ds.length Γ → N.nx Γ) : ForD g tb N ds Γ := by
  refine for_inv (fun es Γ => ∃ i, es = ds.drop i ∧ i ≤ ds.length ∧ I i Γ) ?_ ?_ ds Γ ⟨0, rfl, Nat.zero_le _, h⟩
  · rintro Γ ⟨i, e, hi, q⟩
    have : i = ds.length := by
      have := congrArg List.length e
      rw [List.length_drop] at this
      simp at this
      omega
    subst this
    exact h0 Γ q
  · rintro d es Γ ⟨i, e, hi, q⟩
    have hlt : i < ds.length := by
      have := congrArg List.length e
      rw [List.length_drop] at this
      simp at this
      omega
    rw [List.drop_eq_getElem_cons hlt] at e
    injection e with e1 e2
    subst e1
    have go : ∀ Γ', I (i + 1) Γ' → ∃ j, es = ds.drop j ∧ j ≤ ds.length ∧ I j Γ' := fun Γ' z => ⟨i + 1, e2, hlt, z⟩
    exact MG.mono (g := g) _ _ _ _ (fun Γ2 z => MS.mono (t := tb) { N with nx := I (i + 1), ct := I (i + 1), bk := N.nx } _ _ ⟨go, fun _ _ z => z, fun _ z => z, go⟩ z) (hs i _ Γ (List.getElem?_eq_getElem hlt) q)
/-- a comprehension that tests nothing: the elements one by one -/
theorem comp_ix {g : TG'} {tc : TT'} {te : TE'} [MG g] [MT tc] [ME te] {Q : List D → Prop} {ds : List D} {Γ : Sts} (I : Nat → List D → Sts → Prop) (h : I 0 [] Γ)
    (hs : ∀ (i : Nat) d acc Γ, ds[i]? = some d → I i acc Γ → g d Γ fun Γ2 => tc Γ2 fun b Γ3 => if b = true then te Γ3 fun y Γ4 => I (i + 1) (acc ++ [y]) (vo Γ4) else I (i + 1) acc (vo Γ3)) (h0 : ∀ acc Γ, I ds.length acc Γ → Q acc) : CompD g tc te Q ds [] Γ := by
  have key : ∀ (n i : Nat) (acc : List D) (Γ : Sts), n = ds.length - i → i ≤ ds.length → I i acc Γ → CompD g tc te Q (ds.drop i) acc Γ := by
    intro n
    induction n with
    | zero =>
      intro i acc Γ hn hi q
      have : i = ds.length := by omega
      subst this
      rw [List.drop_eq_nil_of_le (Nat.le_refl _)]
      exact h0 acc Γ q
    | succ n ih =>
      intro i acc Γ hn hi q
      have hlt : i < ds.length := by omega
      rw [List.drop_eq_getElem_cons hlt]
      refine MG.mono (g := g) _ _ _ _ (fun Γ2 z => MT.mono (t := tc) _ _ _ (fun b Γ3 z => ?_) z) (hs i _ acc Γ (List.getElem?_eq_getElem hlt) q)
      cases b with
      | true => exact ME.mono (t := te) _ _ _ (fun y Γ4 z => ih (i + 1) _ _ (by omega) hlt z) z
      | false => exact ih (i + 1) _ _ (by omega) hlt z
  exact key _ 0 [] Γ rfl (Nat.zero_le _) h
/-! ### the operations -/
instance {g : Int → Int → D} : MR2 (rI0' g) := ⟨fun _ _ _ _ h ⟨i, j, a, b, q⟩ => ⟨i, j, a, b, h _ q⟩⟩
instance {C : Int → Int → Prop} {g : Int → Int → D} : MR2 (rI' C g) := ⟨fun _ _ _ _ h ⟨i, j, a, b, c, q⟩ => ⟨i, j, a, b, c, h _ q⟩⟩
instance : MR2 rAddS := ⟨fun _ _ _ _ h ⟨i, j, a, b, c, q⟩ => ⟨i, j, a, b, c, h _ q⟩⟩
instance : MR2 rAdd' := ⟨fun _ _ _ _ h q => by
  rcases q with ⟨i, j, a, b, q⟩ | q
  · exact .inl ⟨i, j, a, b, h _ q⟩
  · exact .inr (MR2.mono (r := rAddS) _ _ _ _ h q)⟩
instance : MR2 rEq' := ⟨fun _ _ _ _ h ⟨b, e, q⟩ => ⟨b, e, h _ q⟩⟩
instance : MR2 rNe' := ⟨fun _ _ _ _ h ⟨b, e, q⟩ => ⟨b, e, h _ q⟩⟩
instance {neg : Bool} : MR2 (rInS neg) := ⟨fun _ _ _ _ h ⟨c, l, a, b, q⟩ => ⟨c, l, a, b, h _ q⟩⟩
instance {neg : Bool} : MR2 (rInR' neg) := ⟨fun _ _ _ _ h ⟨i, c, l, a, b, q⟩ => ⟨i, c, l, a, b, h _ q⟩⟩
instance : MR2 rNotIn' := ⟨fun _ _ _ _ h q => by
  rcases q with q | q
  · exact .inl (MR2.mono (r := rInS true) _ _ _ _ h q)
  · exact .inr (MR2.mono (r := rInR' true) _ _ _ _ h q)⟩
instance {neg : Bool} : MR2 (rIsN neg) := ⟨fun _ _ _ _ h ⟨a, b, e, q⟩ => ⟨a, b, e, h _ q⟩⟩
instance : MR2 rIx' := ⟨fun _ _ _ _ h ⟨i, e, q⟩ => ⟨i, e, by
  rcases q with ⟨ds, d, a, b, q⟩ | ⟨ds, d, a, b, q⟩ | ⟨l, c, a, b, e, q⟩
  · exact .inl ⟨ds, d, a, b, h _ q⟩
  · exact .inr (.inl ⟨ds, d, a, b, h _ q⟩)
  · exact .inr (.inr ⟨l, c, a, b, e, h _ q⟩)⟩⟩
instance : MRS rSl' := ⟨fun _ _ _ _ _ h q => by
  rcases q with ⟨l, a, b, q⟩ | ⟨l, a, q⟩
  · refine .inl ⟨l, a, b, ?_⟩
    rcases q with ⟨c, n, d, e, q⟩ | ⟨c, n, d, e, q⟩
    · exact .inl ⟨c, n, d, e, h _ q⟩
    · exact .inr ⟨c, n, d, e, h _ q⟩
  · exact .inr ⟨l, a, h _ q⟩⟩
instance : MRC rLen' := ⟨fun _ _ _ h ⟨d, e, q⟩ => ⟨d, e, by
  rcases q with ⟨l, a, b, q⟩ | ⟨l, a, q⟩ | ⟨l, a, q⟩
  · exact .inl ⟨l, a, b, h _ q⟩
  · exact .inr (.inl ⟨l, a, h _ q⟩)
  · exact .inr (.inr ⟨l, a, h _ q⟩)⟩⟩
instance : MRC rIntS := ⟨fun _ _ _ h ⟨l, n, a, b, c, q⟩ => ⟨l, n, a, b, c, h _ q⟩⟩
instance : MRC rStrI := ⟨fun _ _ _ h ⟨i, a, b, q⟩ => ⟨i, a, b, h _ q⟩⟩
instance : MRC rMin2 := ⟨fun _ _ _ h ⟨i, j, a, q⟩ => ⟨i, j, a, h _ q⟩⟩
instance : MRC rMax2 := ⟨fun _ _ _ h ⟨i, j, a, q⟩ => ⟨i, j, a, h _ q⟩⟩
instance : MRC rOrd := ⟨fun _ _ _ h ⟨i, a, q⟩ => ⟨i, a, h _ q⟩⟩
instance : MRC rAll := ⟨fun _ _ _ h ⟨i, a, q⟩ => ⟨i, a, h _ q⟩⟩
instance : MRC rAny := ⟨fun _ _ _ h ⟨i, a, q⟩ => ⟨i, a, h _ q⟩⟩
instance : MRC rTupOf := ⟨fun _ _ _ h ⟨i, j, a, b, q⟩ => ⟨i, j, a, b, h _ q⟩⟩
instance : MRC rRng2 := ⟨fun _ _ _ h ⟨i, j, a, q⟩ => ⟨i, j, a, h _ q⟩⟩
instance {K : PySem.W.Frag} : MRC (rIsi K) := ⟨fun _ _ _ h ⟨d, c, t, b, x, y, z, q⟩ => ⟨d, c, t, b, x, y, z, h _ q⟩⟩
instance : MRM rRstrip := ⟨fun _ _ _ _ h ⟨l, y, a, b, c, q⟩ => ⟨l, y, a, b, c, h _ q⟩⟩
instance : MRM rRjust := ⟨fun _ _ _ _ h ⟨l, n, c, a, b, d, e, q⟩ => ⟨l, n, c, a, b, d, e, h _ q⟩⟩
end PL

namespace PL
open PySem L2
/-! ### the law itself -/
def spLaw : Sp' := fun ds Q => ∃ ns : List Int, ds = [.lst (ns.map .int)] ∧ ns.length ≤ 63 ∧ Q (.val (.bl true))
theorem den_ints {K : PySem.W.Frag} {H : Hp} : ∀ ns : List Int, DenL K H (ns.map V.int) (ns.map D.int)
  | [] => .nil
  | n :: ns => .cons (.int n) (den_ints ns)
theorem spLaw_ok (K : PySem.W.Frag) (H : Hp) (a : Addr) (ns : List Int) (hl : ns.length ≤ 63) (hO : Only H) (hS : SqL K H a (ns.map V.int)) : spOf K spLaw [.ref a] H (fun v _ => v = .bl true) (fun _ _ _ => False) := by
  refine ⟨H, [.lst (ns.map .int)], fun r => r = .val (.bl true), ⟨Same.refl _, fun b xs q => q⟩, .cons (Den.mkL hS (den_ints ns)) .nil, ⟨ns, rfl, hl, rfl⟩, ?_⟩
  rintro Hi' H' v r ex ro rfl
  exact Den.blI ro
/-- the law's def, found behind the top, keeps its promise over every base -/
theorem law_at {P : Program} {w : World} {K : PySem.W.Frag} {mg : Str → Option Value} {k : Nat} {fa : Addr} {oc : Value} {od : Option Addr} {fd : FuncData} {sl : Array (Option Value)} {ps : List Str}
    (hfa : mg "law" = some (.ref fa)) (lk : K.lookup fa = some ⟨oc, od, .func fd, sl⟩) (base : Heap) (G : Fn P w K mg base k "law" ps spLaw) : FnOk P w K mg base CX0 k fa fd ps (spOf K spLaw) := by
  obtain ⟨f, fd', F, _, _, m, oc', od', sl', lk'⟩ := G.ex
  rw [hfa] at m
  cases m
  rw [lk] at lk'
  cases lk'
  exact F
theorem walk_law {l : PySem.W.OpenLaw} {k : Nat} {q : Program} {loose : List Str} {XP : (Str → Option Value) → Heap → Prop} {YP : World → Heap → Prop} {d : DefRec} {K : Params → PySem.W.Frag} {x : Str} (hn : l.most = some 63) (hdf : d.params.defaults = []) (hr : Room k callerA)
    (hY : ∀ (w : World) (h : Heap), YP w h → (K w.params).In h)
    (F : ∀ (w : World) (mg : Str → Option Value) (fa : Addr) (h : Heap), (K w.params).In h → h.Ns mainGlobals mg → mg d.name = some (.ref fa) →
      ∃ fd : FuncData, (∀ (s : Shared) (u : Value), BindsTo s fd ⟨[u], []⟩ [(x, u)]) ∧ ∀ base : Heap, (K w.params).In base → base.Ns mainGlobals mg → FnOk l.prog w (K w.params) mg base CX0 k fa fd [x] (spOf (K w.params) spLaw)) :
    PySem.W.WalkO q loose XP YP l.row.toRowW d [] (fun f vs => PySem.call f vs) :=
  L2.walk_of (n := 63) (k := k) (x := x) (CX := fun _ => CX0) (sp := fun w => spOf (K w.params) spLaw) hn (by decide) hdf hr hY F (fun _ _ a ns hl hO hS => spLaw_ok _ _ a ns hl hO hS) fun _ _ _ _ _ z => z
end PL

namespace L2
open PySem PySem.Spec PyProof.Rows
section
variable {X : Cx}
/-! ### tuples: t + u, t[a:b], whatever they are -/
theorem op_catA : OpR X (binaryOp .Add) (fun x y H Q => ∃ a b xs ys, x = .ref a ∧ y = .ref b ∧ SqT X.K H a xs ∧ SqT X.K H b ys ∧ xs.length + ys.length ≤ sizeLine ∧ (xs = [] → Q (.ref b) H) ∧ (xs ≠ [] → ys = [] → Q (.ref a) H) ∧
    (xs ≠ [] → ys ≠ [] → ∀ p, H p = none → Q (.ref p) (upd H p (.tup (xs ++ ys))))) := by
  intro pins s σ H x y v u Q I rx ry h
  obtain ⟨a, b, xs, ys, rfl, rfl, ha, hb, hz, q0, q1, q2⟩ := h
  by_cases hx : xs = []
  · cases rx
    cases ry
    obtain ⟨its, r1, p1, _⟩ := I.tuple ha
    obtain ⟨its2, r2, p2, _⟩ := I.tuple hb
    obtain ⟨⟨cls, dd, data, sl⟩, ho, hc, n, hd⟩ := id p1
    obtain ⟨⟨cls2, dd2, data2, sl2⟩, ho2, hc2, n2, hd2⟩ := id p2
    simp only at hc hd hc2 hd2
    subst hc hd hc2 hd2
    have hi : its = [] := r1.nil_iff.mpr hx
    refine concat_meets ⟨_, ho, rfl⟩ ⟨_, ho2, rfl⟩ noFill_tuple_add seq_tuple_add PySem.F.slot_tuple_add PySem.F.entry_tuple_add (PySem.F.args_tuple_add_2 _ _)
      (tuple_addW0 a b its.toArray its2.toArray n n2 dd dd2 sl sl2 (by simp [hi])) ⟨ho, ho2, ?_⟩
    exact ⟨.ref b, H, I, rfl, q0 hx⟩
  · exact op_catT pins s σ H _ _ v u Q I rx ry ⟨a, b, xs, ys, rfl, rfl, ha, hb, hx, hz, q1 hx, q2 hx⟩
end
end L2
namespace HT
open PySem PyProof.Rows
section
variable {prog : Program} {w : World} {A : Around} {E : Value → Shared → Prop} {s : Shared}
theorem getItem_tuple_whole {t sl : Addr} {items : Array Value} {vl vu : Value} {lo hi : Option Int} {Q : Value → Shared → Prop} (ht : IsTup s.heap t items) (hs : s.heap.IsSliceOf sl vl vu .none) (pl : IsPart vl lo) (pu : IsPart vu hi)
    (hw : sIx items.size 0 lo = 0 ∧ sIx items.size items.size hi = items.size) (h : Q (.ref t) s) : wpAny (model prog w) A (getItem (.ref t) (.ref sl)) Q E s := by
  obtain ⟨os, hos, hcs, hds⟩ := id hs
  have hTs : s.TypeIs (.ref sl) "slice" := ⟨os, hos, hcs⟩
  unfold getItem
  try with_reducible refine wpAny_holding ?_
  first | refine wpAny_bind (wpAny_pure ?_) | skip
  refine wpAny_bind (wpAny_sequenceKey ht.typeIs (by decide) ?_)
  refine wpAny_bind (wpAny_callSpecial?_slot (name := Str.ofString "__getitem__") ht.typeIs PyProof.Rows.slot_tuple_getitem
    (wpAny_call_entry PyProof.Rows.slot_tuple_getitem ht.typeIs entry_tuple_getitem ?_ (args_tuple_getitem _ _)))
  show wpAny _ _ (Builtin.Tuple.tupleItemsOf (.ref t) >>= _) _ _ s
  refine wpAny_bind (tupleItemsOf_ ht ?_)
  refine wpAny_bind (wpAny_typeOf hTs ?_)
  rw [if_pos (by decide)]
  refine wpAny_bind (sliceApplied_gen hs pl pu ?_)
  have hyes : ((((sIx items.size 0 lo : Nat) : Int) == 0 && (1 : Int) == 1 && (sIx items.size items.size hi - sIx items.size 0 lo) == items.size) = true) := by
    rw [hw.1, hw.2]
    simp
  show wpAny _ _ (if (((sIx items.size 0 lo : Nat) : Int) == 0 && (1 : Int) == 1 && (sIx items.size items.size hi - sIx items.size 0 lo) == items.size) = true then _ else _) _ _ s
  rw [if_pos hyes]
  refine wpAny_bind (m := Builtin.Tuple.tupleIsExact (.ref t)) ?_
  unfold Builtin.Tuple.tupleIsExact
  refine wpAny_bind (wpAny_typeOf ht.typeIs ?_)
  refine wpAny_pure ?_
  rw [if_pos (by decide)]
  exact wpAny_bind (wpAny_rule (wpAny_pure ⟨_, rfl, wpAny_pure h⟩))
end
end HT
namespace L2
open PySem PySem.Spec PyProof.Rows
section
variable {X : Cx}
theorem sl_tupA : SlR X (fun x lo hi H Q => ∃ a xs, x = .ref a ∧ SqT X.K H a xs ∧ ((HT.sIx xs.length 0 lo = 0 ∧ HT.sIx xs.length xs.length hi = xs.length) → Q (.ref a) H) ∧
    (¬ (HT.sIx xs.length 0 lo = 0 ∧ HT.sIx xs.length xs.length hi = xs.length) → ∀ p, H p = none → Q (.ref p) (upd H p (.tup (cutV xs lo hi))))) := by
  intro pins s σ H x v vl vu lo hi sl Q I rx hs pl pu h
  obtain ⟨a, xs, rfl, hx, q1, q2⟩ := h
  by_cases hw : HT.sIx xs.length 0 lo = 0 ∧ HT.sIx xs.length xs.length hi = xs.length
  · cases rx
    obtain ⟨its, r, ht, hz⟩ := I.tuple hx
    have hlen : its.toArray.size = xs.length := by rw [List.size_toArray]; exact r.length.symm
    refine ⟨"tuple", _, PyProof.Rows.slot_tuple_getitem.lookup, ht.typeIs, ?_⟩
    exact HT.getItem_tuple_whole ht hs pl pu (by rw [hlen]; exact hw) ⟨.ref a, H, I, rfl, q1 hw⟩
  · exact sl_tup pins s σ H _ v vl vu lo hi sl Q I rx hs pl pu ⟨a, xs, rfl, hx, hw, q2 hw⟩
end
end L2
namespace PL
open PySem L2
section
variable {X : Cx} {K : PySem.W.Frag}
def rAddT : R2' := fun x y Q => ∃ xs ys, x = .tup xs ∧ y = .tup ys ∧ xs.length + ys.length ≤ sizeLine ∧ Q (.tup (xs ++ ys))
theorem o_addt : Op2 X (binaryOp .Add) rAddT := ⟨_, op_catA, by
  rintro Hi H x y dx dy Q Q2 s d1 d2 ⟨xs, ys, rfl, rfl, hl, q⟩ fin
  obtain ⟨a, vs, rfl, h1, h2⟩ := d1.tupI
  obtain ⟨b, us, rfl, h3, h4⟩ := d2.tupI
  refine ⟨a, b, vs, us, rfl, rfl, sqT_mono s.sub h1, sqT_mono s.sub h3, by rw [paired_len h2, paired_len h4]; exact hl, fun e => ?_, fun _ e => ?_, fun _ _ p hp => ?_⟩
  · subst e
    cases h2
    exact fin Hi H _ _ (Ext.refl s) d2 q
  · subst e
    cases h4
    rw [List.append_nil] at q
    exact fin Hi H _ _ (Ext.refl s) d1 q
  · have e := Ext.new s hp (.tup (vs ++ us))
    exact fin _ _ _ _ e (Den.mkT upd_same (paired_app (h2.mono e.hi) (h4.mono e.hi))) q⟩
theorem s_tup : Sli X rSlT' := ⟨_, sl_tupA, by
  rintro Hi H x dx lo hi Q Q2 s d1 ⟨ds, rfl, q⟩ fin
  obtain ⟨a, vs, rfl, h1, h2⟩ := d1.tupI
  have hl := paired_len h2
  refine ⟨a, vs, rfl, sqT_mono s.sub h1, fun hw => ?_, fun _ p hp => ?_⟩
  · have e : cutD ds lo hi = ds := by
      unfold cutD
      rw [← hl, hw.1, hw.2, List.drop_zero, Nat.sub_zero, hl, List.take_length]
    rw [e] at q
    exact fin Hi H _ _ (Ext.refl s) d1 q
  · have e := Ext.new s hp (.tup (cutV vs lo hi))
    exact fin _ _ _ _ e (Den.mkT upd_same (cut_den (h2.mono e.hi))) q⟩
/-! ### == of data -/
def eqL (f : D → D → Option Bool) : List D → List D → Option Bool
  | x :: xs, y :: ys => match f x y, eqL f xs ys with
    | some a, some b => some (a && b)
    | _, _ => none
  | [], [] => some true
  | _, _ => some false
/-- .. n tuples and lists deep at most -/
def eqD : Nat → D → D → Option Bool
  | n + 1, .tup xs, .tup ys => eqL (eqD n) xs ys
  | n + 1, .lst xs, .lst ys => if xs.length = ys.length then eqL (eqD n) xs ys else some false
  | _, x, y => eqS x y
theorem eqS_V {x y : V} {dx dy : D} {b : Bool} {Hi : Hp} (d1 : Den K Hi x dx) (d2 : Den K Hi y dy) (h : eqS dx dy = some b) : flatV x = true ∧ flatV y = true ∧ eqV x y = b := by
  cases d1 <;> cases d2 <;> first
    | (exact absurd (show (none : Option Bool) = some b from h) (fun z => nomatch z))
    | (refine ⟨rfl, rfl, ?_⟩
       have h' := Option.some.inj h
       subst h'
       first
         | rfl
         | (show ((_ : Int) == _) = decide _; rw [Bool.beq_eq_decide_eq])
         | (show ((_ : Bool) == _) = decide _; rw [Bool.beq_eq_decide_eq])
         | (show ((_ : Str) == _) = decide _
            rw [Bool.beq_eq_decide_eq]
            exact decide_eq_decide.mpr ⟨fun z => st_inj z, fun z => congrArg st z⟩))
theorem eqS_same {x : V} {dx dy : D} {b : Bool} {Hi : Hp} (d1 : Den K Hi x dx) (d2 : Den K Hi x dy) (h : eqS dx dy = some b) : b = true := by
  obtain ⟨f1, f2, e⟩ := eqS_V d1 d2 h
  rw [← e]
  cases x <;> first | rfl | (exact absurd (show false = true from f1) Bool.false_ne_true) | (show ((_ : _) == _) = true; exact beq_self_eq_true _)
theorem eqL_same {f : D → D → Option Bool} {Hi : Hp} (hf : ∀ v x y b, Den K Hi v x → Den K Hi v y → f x y = some b → b = true) : ∀ {vs : List V} {xs ys : List D} {b : Bool}, DenL K Hi vs xs → DenL K Hi vs ys → eqL f xs ys = some b → b = true
  | [], _, _, b, .nil, .nil, h => (Option.some.inj h).symm
  | v :: vs, x :: xs, y :: ys, b, .cons r1 t1, .cons r2 t2, h => by
    unfold eqL at h
    cases e1 : f x y with
    | none => rw [e1] at h; cases h
    | some a =>
      cases e2 : eqL f xs ys with
      | none => rw [e1, e2] at h; cases h
      | some c =>
        rw [e1, e2] at h
        rw [← Option.some.inj h, hf v x y a r1 r2 e1, eqL_same hf t1 t2 e2]
        rfl
theorem eqD_zero (x y : D) : eqD 0 x y = eqS x y := by cases x <;> cases y <;> rfl
section
variable {pins : List (Addr × Obj)} {σ : St} {H Hi : Hp} {s : Shared}
theorem eqD_same (I : L2.Inv X pins σ H s) (sub : Same Hi H) : ∀ (n : Nat) (v : V) (x y : D) (b : Bool), Den X.K Hi v x → Den X.K Hi v y → eqD n x y = some b → b = true := by
  intro n
  induction n with
  | zero =>
    intro v x y b d1 d2 h
    rw [eqD_zero] at h
    exact eqS_same d1 d2 h
  | succ n ih =>
    intro v x y b d1 d2 h
    cases x with
    | tup xs =>
      cases y with
      | tup ys =>
        obtain ⟨a, vs, rfl, h1, h2⟩ := d1.tupI
        obtain ⟨a', us, e, h3, h4⟩ := d2.tupI
        cases e
        have e := I.tuple_inj (sqT_mono sub h1) (sqT_mono sub h3)
        subst e
        exact eqL_same ih h2 h4 h
      | _ => exact eqS_same d1 d2 h
    | lst xs =>
      cases y with
      | lst ys =>
        obtain ⟨a, vs, rfl, h1, h2⟩ := d1.lstI
        obtain ⟨a', us, e, h3, h4⟩ := d2.lstI
        cases e
        have e := I.list_inj (sqL_mono sub h1) (sqL_mono sub h3)
        subst e
        have hl : xs.length = ys.length := by rw [← paired_len h2, ← paired_len h4]
        unfold eqD at h
        rw [if_pos hl] at h
        exact eqL_same ih h2 h4 h
      | _ => exact eqS_same d1 d2 h
    | _ => exact eqS_same d1 d2 h
/-- the items' answers, one by one -/
theorem eqL_items {f : D → D → Option Bool} : ∀ {xs ys : List D} {b : Bool}, eqL f xs ys = some b → ∃ e : Nat → Bool, (∀ (j : Nat) x y, xs[j]? = some x → ys[j]? = some y → f x y = some (e j)) ∧ b = ((List.range (min xs.length ys.length)).all e && xs.length == ys.length)
  | [], [], b, h => ⟨fun _ => true, fun j x y h1 _ => by simp at h1, by simpa [eqL] using h.symm⟩
  | [], y :: ys, b, h => ⟨fun _ => true, fun j x y h1 _ => by simp at h1, by simpa [eqL] using h.symm⟩
  | x :: xs, [], b, h => ⟨fun _ => true, fun j x y _ h2 => by simp at h2, by simpa [eqL] using h.symm⟩
  | x :: xs, y :: ys, b, h => by
    unfold eqL at h
    cases e1 : f x y with
    | none => rw [e1] at h; cases h
    | some a =>
      cases e2 : eqL f xs ys with
      | none => rw [e1, e2] at h; cases h
      | some c =>
        rw [e1, e2] at h
        obtain ⟨e, h1, h2⟩ := eqL_items e2
        refine ⟨fun j => match j with | 0 => a | j + 1 => e j, fun j x' y' hx hy => ?_, ?_⟩
        · cases j with
          | zero => simp at hx hy; subst hx; subst hy; exact e1
          | succ j => exact h1 j x' y' (by simpa using hx) (by simpa using hy)
        · rw [← Option.some.inj h, h2]
          have hm : min (x :: xs).length (y :: ys).length = min xs.length ys.length + 1 := by simp [Nat.succ_min_succ]
          rw [hm, List.range_succ_eq_map, List.all_cons, List.all_map]
          show (a && ((List.range (min xs.length ys.length)).all e && xs.length == ys.length)) = ((a && (List.range (min xs.length ys.length)).all e) && (x :: xs).length == (y :: ys).length)
          rw [Bool.and_assoc]
          congr 2
          simp
theorem eqAt_D (I : L2.Inv X pins σ H s) (sub : Same Hi H) : ∀ (n : Nat) (A : Around) (x y : V) (u v : Value) (dx dy : D) (b : Bool), A.units + n < cLine → Den X.K Hi x dx → Den X.K Hi y dy → RelV x u → RelV y v → eqD n dx dy = some b → SeqAt.EqAt A s u v b := by
  intro n
  induction n with
  | zero =>
    intro A x y u v dx dy b hu d1 d2 rx ry h
    rw [eqD_zero] at h
    obtain ⟨f1, f2, e⟩ := eqS_V d1 d2 h
    rw [← e]
    exact eqAt_V rx ry f1 f2
  | succ n ih =>
    intro A x y u v dx dy b hu d1 d2 rx ry h
    have scal : eqS dx dy = some b → SeqAt.EqAt A s u v b := fun h => by
      obtain ⟨f1, f2, e⟩ := eqS_V d1 d2 h
      rw [← e]
      exact eqAt_V rx ry f1 f2
    have items : ∀ {vs ws : List V} {its jts : List Value} {xs ys : List D} {e : Nat → Bool}, DenL X.K Hi vs xs → DenL X.K Hi ws ys → Vals vs its → Vals ws jts → (∀ (j : Nat) x y, xs[j]? = some x → ys[j]? = some y → eqD n x y = some (e j)) →
        ∀ j (h1 : j < its.toArray.size) (h2 : j < jts.toArray.size), SeqAt.EqAt A.in1 s its.toArray[j] jts.toArray[j] (e j) := fun {vs ws its jts xs ys e} r1 r2 v1 v2 he j h1 h2 => by
      have l1 : j < vs.length := by rw [v1.length]; simpa using h1
      have l2 : j < ws.length := by rw [v2.length]; simpa using h2
      obtain ⟨dx', e1, q1⟩ := paired_left r1 (List.getElem?_eq_getElem l1)
      obtain ⟨dy', e2, q2⟩ := paired_left r2 (List.getElem?_eq_getElem l2)
      obtain ⟨u1, e3, q3⟩ := v1.get (List.getElem?_eq_getElem l1)
      obtain ⟨u2, e4, q4⟩ := v2.get (List.getElem?_eq_getElem l2)
      have z1 : its.toArray[j] = u1 := by
        have := List.getElem?_eq_some_iff.mp e3
        obtain ⟨_, z⟩ := this
        simpa using z
      have z2 : jts.toArray[j] = u2 := by
        have := List.getElem?_eq_some_iff.mp e4
        obtain ⟨_, z⟩ := this
        simpa using z
      rw [z1, z2]
      exact ih A.in1 _ _ u1 u2 dx' dy' (e j) (by show A.units + 1 + n < cLine; omega) q1 q2 q3 q4 (he j dx' dy' e1 e2)
    cases dx with
    | tup xs =>
      cases dy with
      | tup ys =>
        obtain ⟨a, vs, rfl, h1, h2⟩ := d1.tupI
        obtain ⟨c, ws, rfl, h3, h4⟩ := d2.tupI
        cases rx
        cases ry
        by_cases hac : a = c
        · subst hac
          have e := I.tuple_inj (sqT_mono sub h1) (sqT_mono sub h3)
          subst e
          rw [eqL_same (eqD_same I sub n) h2 h4 h]
          exact SeqAt.EqAt.same _
        · obtain ⟨its, r1, p1, _⟩ := I.tuple (sqT_mono sub h1)
          obtain ⟨jts, r2, p2, _⟩ := I.tuple (sqT_mono sub h3)
          obtain ⟨e, he, hb⟩ := eqL_items h
          have lx : xs.length = its.length := by rw [← paired_len h2, r1.length]
          have ly : ys.length = jts.length := by rw [← paired_len h4, r2.length]
          have hb' : b = ((List.range (min its.toArray.size jts.toArray.size)).all e && its.toArray.size == jts.toArray.size) := by
            rw [hb, lx, ly]; simp
          rw [hb']
          exact SeqAt.EqAt.of_refs hac (SeqAt.RcAt.tuples (show s.heap.IsTuple a its.toArray from p1) (show s.heap.IsTuple c jts.toArray from p2) (by omega) (items h2 h4 r1 r2 he))
      | _ => exact scal h
    | lst xs =>
      cases dy with
      | lst ys =>
        obtain ⟨a, vs, rfl, h1, h2⟩ := d1.lstI
        obtain ⟨c, ws, rfl, h3, h4⟩ := d2.lstI
        cases rx
        cases ry
        unfold eqD at h
        by_cases hac : a = c
        · subst hac
          have e := I.list_inj (sqL_mono sub h1) (sqL_mono sub h3)
          subst e
          have hl : xs.length = ys.length := by rw [← paired_len h2, ← paired_len h4]
          rw [if_pos hl] at h
          rw [eqL_same (eqD_same I sub n) h2 h4 h]
          exact SeqAt.EqAt.same _
        · obtain ⟨its, r1, p1, _⟩ := I.list (sqL_mono sub h1)
          obtain ⟨jts, r2, p2, _⟩ := I.list (sqL_mono sub h3)
          have lx : xs.length = its.length := by rw [← paired_len h2, r1.length]
          have ly : ys.length = jts.length := by rw [← paired_len h4, r2.length]
          by_cases hl : xs.length = ys.length
          · rw [if_pos hl] at h
            obtain ⟨e, he, hb⟩ := eqL_items h
            have hs : its.toArray.size = jts.toArray.size := by simp; omega
            have hb' : b = ((List.range its.toArray.size).all e) := by
              rw [hb, lx, ly]
              have z : (its.length == jts.length) = true := by simp; omega
              have z2 : min its.length jts.length = its.length := by omega
              rw [z, z2, Bool.and_true]
              simp
            rw [hb']
            exact SeqAt.EqAt.of_refs hac (SeqAt.RcAt.lists p1.isList p2.isList hs (by omega) (items h2 h4 r1 r2 he))
          · rw [if_neg hl] at h
            cases h
            exact SeqAt.EqAt.of_refs hac (SeqAt.RcAt.lists_lengths p1.isList p2.isList (by simp; omega) (by omega))
      | _ => exact scal h
    | _ => exact scal h
end
end
end PL

namespace PL
open PySem L2
section
variable {X : Cx} {K : PySem.W.Frag}
section
variable {pins : List (Addr × Obj)} {σ : St} {H Hi : Hp} {s : Shared}
theorem eq_items (I : L2.Inv X pins σ H s) (sub : Same Hi H) {n : Nat} {A : Around} (hu : A.units + 1 + n < cLine) {vs ws : List V} {its jts : List Value} {xs ys : List D} {e : Nat → Bool} (r1 : DenL X.K Hi vs xs) (r2 : DenL X.K Hi ws ys) (v1 : Vals vs its) (v2 : Vals ws jts) (he : ∀ (j : Nat) x y, xs[j]? = some x → ys[j]? = some y → eqD n x y = some (e j)) :
    ∀ j (h1 : j < its.toArray.size) (h2 : j < jts.toArray.size), SeqAt.EqAt A.in1 s its.toArray[j] jts.toArray[j] (e j) := fun j h1 h2 => by
  have l1 : j < vs.length := by rw [v1.length]; simpa using h1
  have l2 : j < ws.length := by rw [v2.length]; simpa using h2
  obtain ⟨dx', e1, q1⟩ := paired_left r1 (List.getElem?_eq_getElem l1)
  obtain ⟨dy', e2, q2⟩ := paired_left r2 (List.getElem?_eq_getElem l2)
  obtain ⟨u1, e3, q3⟩ := v1.get (List.getElem?_eq_getElem l1)
  obtain ⟨u2, e4, q4⟩ := v2.get (List.getElem?_eq_getElem l2)
  have z1 : its.toArray[j] = u1 := by
    obtain ⟨_, z⟩ := List.getElem?_eq_some_iff.mp e3
    simpa using z
  have z2 : jts.toArray[j] = u2 := by
    obtain ⟨_, z⟩ := List.getElem?_eq_some_iff.mp e4
    simpa using z
  rw [z1, z2]
  exact eqAt_D I sub n A.in1 _ _ u1 u2 dx' dy' (e j) (by show A.units + 1 + n < cLine; omega) q1 q2 q3 q4 (he j dx' dy' e1 e2)
/-- == and != at the top -/
theorem rc_D (I : L2.Inv X pins σ H s) (sub : Same Hi H) {n : Nat} {A : Around} {x y : V} {u v : Value} {dx dy : D} {b : Bool} (hu : A.units + n < cLine) (d1 : Den X.K Hi x dx) (d2 : Den X.K Hi y dy) (rx : RelV x u) (ry : RelV y v) (h : eqD n dx dy = some b) (hn : eqS dx dy = none) :
    SeqAt.RcAt A s u v b ∧ SeqAt.RcNeAt A s u v (!b) := by
  cases n with
  | zero => rw [eqD_zero, hn] at h; cases h
  | succ n =>
    cases dx with
    | tup xs =>
      cases dy with
      | tup ys =>
        obtain ⟨a, vs, rfl, h1, h2⟩ := d1.tupI
        obtain ⟨c, ws, rfl, h3, h4⟩ := d2.tupI
        cases rx
        cases ry
        obtain ⟨its, r1, p1, _⟩ := I.tuple (sqT_mono sub h1)
        obtain ⟨jts, r2, p2, _⟩ := I.tuple (sqT_mono sub h3)
        obtain ⟨e, he, hb⟩ := eqL_items h
        have lx : xs.length = its.length := by rw [← paired_len h2, r1.length]
        have ly : ys.length = jts.length := by rw [← paired_len h4, r2.length]
        have hb' : b = ((List.range (min its.toArray.size jts.toArray.size)).all e && its.toArray.size == jts.toArray.size) := by
          rw [hb, lx, ly]; simp
        have hi := eq_items (A := A) I sub (by omega) h2 h4 r1 r2 he
        rw [hb']
        exact ⟨SeqAt.RcAt.tuples (show s.heap.IsTuple a its.toArray from p1) (show s.heap.IsTuple c jts.toArray from p2) (by omega) hi, SeqAt.RcNeAt.tuples (show s.heap.IsTuple a its.toArray from p1) (show s.heap.IsTuple c jts.toArray from p2) (by omega) hi⟩
      | _ => exact absurd (hn.symm.trans h) (fun z => nomatch z)
    | lst xs =>
      cases dy with
      | lst ys =>
        obtain ⟨a, vs, rfl, h1, h2⟩ := d1.lstI
        obtain ⟨c, ws, rfl, h3, h4⟩ := d2.lstI
        cases rx
        cases ry
        unfold eqD at h
        obtain ⟨its, r1, p1, _⟩ := I.list (sqL_mono sub h1)
        obtain ⟨jts, r2, p2, _⟩ := I.list (sqL_mono sub h3)
        have lx : xs.length = its.length := by rw [← paired_len h2, r1.length]
        have ly : ys.length = jts.length := by rw [← paired_len h4, r2.length]
        by_cases hl : xs.length = ys.length
        · rw [if_pos hl] at h
          obtain ⟨e, he, hb⟩ := eqL_items h
          have hs : its.toArray.size = jts.toArray.size := by simp; omega
          have hb' : b = ((List.range its.toArray.size).all e) := by
            rw [hb, lx, ly]
            have z : (its.length == jts.length) = true := by simp; omega
            have z2 : min its.length jts.length = its.length := by omega
            rw [z, z2, Bool.and_true]
            simp
          have hi := eq_items (A := A) I sub (by omega) h2 h4 r1 r2 he
          rw [hb']
          exact ⟨SeqAt.RcAt.lists p1.isList p2.isList hs (by omega) hi, SeqAt.RcNeAt.lists p1.isList p2.isList hs (by omega) hi⟩
        · rw [if_neg hl] at h
          cases h
          exact ⟨SeqAt.RcAt.lists_lengths p1.isList p2.isList (by simp; omega) (by omega), SeqAt.RcNeAt.lists_lengths p1.isList p2.isList (by simp; omega) (by omega)⟩
      | _ => exact absurd (hn.symm.trans h) (fun z => nomatch z)
    | _ => exact absurd (hn.symm.trans h) (fun z => nomatch z)
end
/-- x == y: plain data to a hundred deep -/
def rEqD : R2' := fun x y Q => ∃ b, eqD 100 x y = some b ∧ Q (.bl b)
def rNeD : R2' := fun x y Q => ∃ b, eqD 100 x y = some b ∧ Q (.bl (!b))
theorem eqD_scal {n : Nat} {x y : D} {b c : Bool} (h : eqD n x y = some b) (e : eqS x y = some c) : b = c := by
  cases n with
  | zero => rw [eqD_zero, e] at h; exact (Option.some.inj h).symm
  | succ n =>
    have z : eqD (n + 1) x y = eqS x y := by
      cases x <;> first | rfl | (cases y <;> first | rfl | (exact absurd (show (none : Option Bool) = some c from e) (fun z => nomatch z)))
    rw [z, e] at h
    exact (Option.some.inj h).symm
theorem o_eqD (hu : X.A.units + 100 < cLine) : Op2 X (compareOp .Eq) rEqD := by
  refine ⟨fun x y H Q => ∃ Hi dx dy b, Same Hi H ∧ Den X.K Hi x dx ∧ Den X.K Hi y dy ∧ eqD 100 dx dy = some b ∧ Q (.bl b) H, ?_, ?_⟩
  · intro pins s σ H x y v u Q I rx ry h
    obtain ⟨Hi, dx, dy, b, sub, d1, d2, e, q⟩ := h
    cases hn : eqS dx dy with
    | some c =>
      obtain ⟨h1, h2⟩ := eqS_ok d1 d2 hn
      refine op_eq pins s σ H x y v u Q I rx ry ⟨h1, ?_⟩
      rw [h2, ← eqD_scal e hn]
      exact q
    | none => exact (rc_D I sub hu d1 d2 rx ry e hn).1 X.prog X.w X.xe _ ⟨.bl b, H, I, rfl, q⟩
  · rintro Hi H x y dx dy Q Q2 s d1 d2 ⟨b, e, q⟩ fin
    exact ⟨Hi, dx, dy, b, s.sub, d1, d2, e, fin Hi H _ _ (Ext.refl s) (.bl b) q⟩
theorem o_neD (hu : X.A.units + 100 < cLine) : Op2 X (compareOp .NotEq) rNeD := by
  refine ⟨fun x y H Q => ∃ Hi dx dy b, Same Hi H ∧ Den X.K Hi x dx ∧ Den X.K Hi y dy ∧ eqD 100 dx dy = some b ∧ Q (.bl (!b)) H, ?_, ?_⟩
  · intro pins s σ H x y v u Q I rx ry h
    obtain ⟨Hi, dx, dy, b, sub, d1, d2, e, q⟩ := h
    cases hn : eqS dx dy with
    | some c =>
      obtain ⟨h1, h2⟩ := eqS_ok d1 d2 hn
      refine op_ne pins s σ H x y v u Q I rx ry ⟨h1, ?_⟩
      rw [h2, ← eqD_scal e hn]
      exact q
    | none => exact (rc_D I sub hu d1 d2 rx ry e hn).2 X.prog X.w X.xe _ ⟨.bl (!b), H, I, rfl, q⟩
  · rintro Hi H x y dx dy Q Q2 s d1 d2 ⟨b, e, q⟩ fin
    exact ⟨Hi, dx, dy, b, s.sub, d1, d2, e, fin Hi H _ _ (Ext.refl s) (.bl (!b)) q⟩
instance : MR2 rEqD := ⟨fun _ _ _ _ h ⟨b, e, q⟩ => ⟨b, e, h _ q⟩⟩
instance : MR2 rNeD := ⟨fun _ _ _ _ h ⟨b, e, q⟩ => ⟨b, e, h _ q⟩⟩
@[simp] theorem eqD_int (n : Nat) (i j : Int) : eqD n (.int i) (.int j) = some (decide (i = j)) := by cases n <;> rfl
@[simp] theorem eqD_str (n : Nat) (i j : List Nat) : eqD n (.str i) (.str j) = some (decide (i = j)) := by cases n <;> rfl
@[simp] theorem eqD_bl (n : Nat) (i j : Bool) : eqD n (.bl i) (.bl j) = some (decide (i = j)) := by cases n <;> rfl
@[simp] theorem eqD_non (n : Nat) : eqD n .non .non = some true := by cases n <;> rfl
@[simp] theorem rEqD_int {Q : D → Prop} (i j : Int) : rEqD (.int i) (.int j) Q ↔ Q (.bl (decide (i = j))) := by simp [rEqD]
@[simp] theorem rEqD_str {Q : D → Prop} (i j : List Nat) : rEqD (.str i) (.str j) Q ↔ Q (.bl (decide (i = j))) := by simp [rEqD]
@[simp] theorem rEqD_bl {Q : D → Prop} (i j : Bool) : rEqD (.bl i) (.bl j) Q ↔ Q (.bl (decide (i = j))) := by simp [rEqD]
@[simp] theorem rNeD_int {Q : D → Prop} (i j : Int) : rNeD (.int i) (.int j) Q ↔ Q (.bl (!decide (i = j))) := by simp [rNeD]
@[simp] theorem rNeD_str {Q : D → Prop} (i j : List Nat) : rNeD (.str i) (.str j) Q ↔ Q (.bl (!decide (i = j))) := by simp [rNeD]
@[simp] theorem rNeD_bl {Q : D → Prop} (i j : Bool) : rNeD (.bl i) (.bl j) Q ↔ Q (.bl (!decide (i = j))) := by simp [rNeD]
/-! places: tuples of texts -/
def plc (p : List (List Nat)) : D := .tup (p.map .str)
theorem eqL_strs (f : D → D → Option Bool) (hf : ∀ i j : List Nat, f (.str i) (.str j) = some (decide (i = j))) : ∀ p q : List (List Nat), eqL f (p.map .str) (q.map .str) = some (decide (p = q))
  | [], [] => rfl
  | [], _ :: _ => by simp [eqL]
  | _ :: _, [] => by simp [eqL]
  | a :: p, b :: q => by
    simp only [List.map_cons, eqL, hf, eqL_strs f hf p q]
    by_cases h1 : a = b <;> by_cases h2 : p = q <;> simp [h1, h2]
theorem eqD_plc (n : Nat) (p q : List (List Nat)) : eqD (n + 1) (plc p) (plc q) = some (decide (p = q)) := eqL_strs _ (fun i j => eqD_str n i j) p q
@[simp] theorem rEqD_plc {Q : D → Prop} (p q : List (List Nat)) : rEqD (plc p) (plc q) Q ↔ Q (.bl (decide (p = q))) := by
  unfold rEqD
  rw [eqD_plc]
  simp
@[simp] theorem rNeD_plc {Q : D → Prop} (p q : List (List Nat)) : rNeD (plc p) (plc q) Q ↔ Q (.bl (!decide (p = q))) := by
  unfold rNeD
  rw [eqD_plc]
  simp
end
/-! ### what a name owns -/
section
variable {K : PySem.W.Frag} {n : Nat} {W : Wd} {Hi Hi' H H' : Hp} {Γ : Sts} {σ : St} {a : Addr} {o : OD}
theorem adr_lt {i : Nat} (h : i < n) (e : adr n W σ i = some a) : σ[i]? = some (some (.ref a)) := by
  unfold adr at e
  rw [if_pos h] at e
  exact refOf_some e
end
section
variable {X : Cx}
/-- from here on the name i's thing is frozen -/
def tFreeze (n i : Nat) (t : TS') : TS' := fun N Γ => i < n ∧ ∃ o, Γ[i]? = some (.own o) ∧ t N (Γ.set i (.val o.toD))
instance {n i : Nat} {t : TS'} [MS t] : MS (tFreeze n i t) := ⟨fun N N' Γ h ⟨a, o, e, q⟩ => ⟨a, o, e, MS.mono (t := t) N N' _ h q⟩⟩
/-- x.append(e), x a name's own list -/
def tApp' (i : Nat) (te : TE') : TS' := fun N Γ => (∃ ds0, Γ[i]? = some (.own (.lst ds0))) ∧ te Γ fun d Γ1 => ∃ ds, Γ1[i]? = some (.own (.lst ds)) ∧ ds.length < sizeLine ∧ N.nx (Γ1.set i (.own (.lst (ds ++ [d]))))
theorem ps_append' (i : Nat) {x : Str} {e : Expr} {te : TE'} {pos p apos cpos : Pos} (he : PE' X e te) (hN : X.N[i]? = some x := by rfl) (hv : Vis X.env.scope x := by first | exact Or.inl rfl | exact Or.inr (Or.inl rfl) | exact Or.inr (Or.inr rfl)) (hd : (x == ("__debug__" : Str)) = false := by decide)
    (hcd : (x == ("__classdict__" : Str)) = false := by decide) (hst : isStar e = false := by rfl)
    (hbase : attributeBase (.Name x p) "append" X.env (eval (.Name x p) X.env) = eval (.Name x p) X.env := by rfl) (hline : (apos.endLine == cpos.line) = true := by rfl)
    (hs : swapsWith (.Call (.Attribute (.Name x p) "append" apos) [e] [] cpos) none pos.line X.env = pure false := by rfl) :
    PS' X (.Expr (.Call (.Attribute (.Name x p) "append" apos) [e] [] cpos) pos) (tApp' i te) := by
  have pl : plainE [e] = true := by unfold plainE; rw [hst]; rfl
  have hfew : ((backTo cpos (starEach [e] X.env)).all (fun x => !x.1) && (backToKw cpos (keywordEach [] X.env)).all (fun x => x.1.isSome)
      && decide ([e].length + ([] : List Keyword).length + (if ([] : List Keyword).isEmpty then 0 else 1) < 30)) = true := by
    rw [star_of hst]
    rfl
  have base := ps_expr (pe_bm PySem.F.plainAttrs_list PySem.F.slot_list_append PySem.F.type_list_append (mt_append (X := X)) (pe_var (i := i) (pos := p) hN hv hd hcd) (pa_cons he.h pa_nil (star_of hst)) hbase hfew hline (star_of hst) rfl) hs
  refine ⟨PS.weak base ?_⟩
  rintro N2 σ H ⟨W, Hi, Γ, N, g, ⟨⟨ds0, e0⟩, q⟩, l⟩
  have hi : i < X.N.length := (List.getElem?_eq_some_iff.mp hN).1
  obtain ⟨a, h1, h2, h3, vs0, h4, h5⟩ := g.own i _ e0
  refine ⟨.ref a, adr_lt hi h1, .inl ⟨rfl, vs0, SqL.of h4⟩, W, Hi, Γ, _, g, q, ?_⟩
  rintro v H1 ⟨Hi1, d, Γ1, s1, g1, den, ds, e1, hl, q1⟩
  obtain ⟨a', k1, k2, k3, vs, k4, k5⟩ := g1.own i _ e1
  rw [h1] at k1
  cases k1
  refine ⟨a, vs, v, rfl, rfl, k4, by rw [paired_len k5]; exact hl, ?_⟩
  exact l.nx σ _ Hi1 _ s1 (g1.put (o := .lst (ds ++ [d])) e1 h1 ⟨vs ++ [v], upd_same, paired_app k5 (.cons den .nil)⟩) q1
instance {i : Nat} {te : TE'} [ME te] : MS (tApp' i te) := ⟨fun N N' Γ h ⟨a, q⟩ => ⟨a, ME.mono (t := te) _ _ _ (fun _ _ ⟨ds, e, l, z⟩ => ⟨ds, e, l, h.nx _ z⟩) q⟩⟩
end
end PL

namespace PL
open PySem L2
/-! ### a look at what names own: nothing of it is kept -/
/-- data that no one can change -/
inductive Imm : D → Prop where
  | non : Imm .non
  | bl (b : Bool) : Imm (.bl b)
  | int (i : Int) : Imm (.int i)
  | str (l : List Nat) : Imm (.str l)
  | ty (n : String) : Imm (.ty n)
  | cls (C : Addr) : Imm (.cls C)
  | tup {ds : List D} (h : ∀ d, d ∈ ds → Imm d) : Imm (.tup ds)
theorem Imm.plc (p : List (List Nat)) : Imm (plc p) := .tup fun d hd => by
  obtain ⟨l, _, rfl⟩ := List.mem_map.mp hd
  exact .str l
theorem Imm.den {K : PySem.W.Frag} {H H' : Hp} {v : V} {d : D} (im : Imm d) (h : Den K H v d) (e : ∀ a xs, (H a = some (.tup xs) → H' a = some (.tup xs)) ∧ ∀ o, H a = some (.frz o (.tup xs)) → H' a = some (.frz o (.tup xs))) : Den K H' v d := by
  induction h with
  | non => exact .non
  | bl b => exact .bl b
  | int i => exact .int i
  | str l => exact .str l
  | ty n => exact .ty n
  | cls C => exact .cls C
  | tup h l r ih =>
    cases im with
    | tup hi =>
      exact .tup ((e _ _).1 h) l fun j v d h1 h2 => ih j v d h1 h2 (hi d (List.mem_of_getElem? h2))
  | _ => cases im
def thaw : Slot → Slot
  | .own o => .val o.toD
  | .val d => .val d
  | _ => .emp
section
variable {K : PySem.W.Frag} {n : Nat} {W : Wd} {Hi Hi' H H' : Hp} {Γ : Sts} {σ : St} {a : Addr} {o : OD}
/-- the addresses of what names own -/
def Owned (n : Nat) (W : Wd) (Γ : Sts) (σ : St) (b : Addr) : Prop := ∃ (i : Nat) (o : OD), i < n ∧ Γ[i]? = some (.own o) ∧ adr n W σ i = some b
open Classical in
noncomputable def lookHi (n : Nat) (W : Wd) (Γ : Sts) (σ : St) (Hi H : Hp) : Hp := fun b => if Owned n W Γ σ b then H b else Hi b
open Classical in
noncomputable def backHi (n : Nat) (W : Wd) (Γ : Sts) (σ : St) (Hb : Hp) : Hp := fun b => if Owned n W Γ σ b then none else Hb b
theorem Owned.hi (g : Good K n W Hi Γ σ H) {b : Addr} (h : Owned n W Γ σ b) : Hi b = none ∧ ∃ u, H b = some u ∧ (∀ xs, u ≠ .tup xs) ∧ ∀ o xs, u ≠ .frz o xs := by
  obtain ⟨i, o, hi, e, ad⟩ := h
  obtain ⟨a, h1, h2, h3, h4⟩ := g.own i o e
  rw [ad] at h1
  cases h1
  refine ⟨h2, ?_⟩
  cases o with
  | lst ds => obtain ⟨vs, q, _⟩ := h4; exact ⟨_, q, ⟨fun _ z => (by cases z), fun _ _ z => (by cases z)⟩⟩
  | dic ds => obtain ⟨kvs, q, _⟩ := h4; exact ⟨_, q, ⟨fun _ z => (by cases z), fun _ _ z => (by cases z)⟩⟩
  | dit ds => obtain ⟨kvs, ep, q, _⟩ := h4; exact ⟨_, q, ⟨fun _ z => (by cases z), fun _ _ z => (by cases z)⟩⟩
  | obj C ds => obtain ⟨dx, fs, q, _⟩ := h4; exact ⟨_, q, ⟨fun _ z => (by cases z), fun _ _ z => (by cases z)⟩⟩
def lookΓ (n : Nat) (Γ : Sts) : Sts := (Γ.take n).map thaw
theorem Good.look (g : Good K n W Hi Γ σ H) : Same Hi (lookHi n W Γ σ Hi H) ∧ Good K n ⟨H, lookHi n W Γ σ Hi H, []⟩ (lookHi n W Γ σ Hi H) (lookΓ n Γ) σ H := by
  have s1 : Same Hi (lookHi n W Γ σ Hi H) := fun b u e => by
    unfold lookHi
    rw [if_neg (fun z => by rw [(Owned.hi g z).1] at e; cases e)]
    exact e
  have inv : ∀ (i : Nat) (sl : Slot), (lookΓ n Γ)[i]? = some sl → ∃ s0, Γ[i]? = some s0 ∧ i < n ∧ sl = thaw s0 := fun i sl e => by
    unfold lookΓ at e
    rw [List.getElem?_map] at e
    cases hj : (Γ.take n)[i]? with
    | none => rw [hj] at e; cases e
    | some s0 =>
      rw [hj] at e
      rw [List.getElem?_take] at hj
      split at hj
      · exact ⟨s0, hj, by assumption, (Option.some.inj e).symm⟩
      · cases hj
  refine ⟨s1, g.len, ⟨fun b u e => ?_, fun b xs e => s1 _ _ (g.fz.tups b xs e)⟩, fun b u e _ => e, fun b u e => ⟨u, e⟩, fun b u e => rfl, fun i d e => ?_, fun i o e => ?_, fun i j o o' a e => ?_, fun i j e => ?_⟩
  · unfold lookHi at e
    split at e
    · exact e
    · exact g.sub b u e
  · obtain ⟨s0, hj, hi, hs⟩ := inv i _ e
    cases s0 with
    | val d' =>
      cases hs
      obtain ⟨v, h1, h2⟩ := g.val i d hj
      exact ⟨v, h1, h2.mono s1⟩
    | own o =>
      cases hs
      obtain ⟨a, h1, h2, h3, h4⟩ := g.own i o hj
      refine ⟨.ref a, adr_lt hi h1, ?_⟩
      have hO : Owned n W Γ σ a := ⟨i, o, hi, hj, h1⟩
      have hl : lookHi n W Γ σ Hi H a = H a := by unfold lookHi; rw [if_pos hO]
      cases o with
      | lst ds => obtain ⟨vs, q, r⟩ := h4; exact Den.mkL (SqL.of (hl.trans q)) (r.mono s1)
      | dic ds => obtain ⟨kvs, q, r⟩ := h4; exact Den.mkDK (.inl (hl.trans q)) (r.mono s1)
      | dit ds => obtain ⟨kvs, ep, q, r⟩ := h4; exact Den.mkDT (hl.trans q) (r.mono s1)
      | obj C ds => obtain ⟨dx, fs, q, r⟩ := h4; exact Den.mkO (hl.trans q) (r.mono s1)
    | emp => cases hs
    | par k => cases hs
  all_goals
    obtain ⟨s0, hj, hi, hs⟩ := inv i _ e
    cases s0 <;> cases hs
/-- behind the look -/
theorem Good.unlook (g : Good K n W Hi Γ σ H) {Hb : Hp} {Γ' : Sts} (sb : Same (lookHi n W Γ σ Hi H) Hb) (g' : Good K n ⟨H, lookHi n W Γ σ Hi H, []⟩ Hb Γ' σ H') :
    Ext Hi H (backHi n W Γ σ Hb) H' ∧ Good K n W (backHi n W Γ σ Hb) Γ σ H' ∧ ∀ v d, Imm d → Den K Hb v d → Den K (backHi n W Γ σ Hb) v d := by
  have kp : ∀ b u, H b = some u → H' b = some u := fun b u e => g'.keep b u e (by simp)
  have s1 : Same Hi (backHi n W Γ σ Hb) := fun b u e => by
    have no : ¬ Owned n W Γ σ b := fun z => by rw [(Owned.hi g z).1] at e; cases e
    unfold backHi
    rw [if_neg no]
    refine sb b u ?_
    unfold lookHi
    rw [if_neg no]
    exact e
  have ex : Ext Hi H (backHi n W Γ σ Hb) H' := by
    refine ⟨s1, kp, ⟨fun b u e => ?_, fun b xs e => ?_⟩, fun b u e => ?_⟩
    · unfold backHi at e
      split at e
      · cases e
      · exact g'.sub b u e
    · have z := g'.fz.tups b xs e
      have no : ¬ Owned n W Γ σ b := fun z => by
        obtain ⟨_, w, hw, w1, _⟩ := Owned.hi g z
        rw [kp b w hw] at e
        cases e
        exact w1 xs rfl
      unfold backHi
      rw [if_neg no]
      exact z
    · unfold backHi
      split
      · rename_i z
        exact (Owned.hi g z).1.symm
      · rename_i z
        rw [g'.fro b u e]
        show lookHi n W Γ σ Hi H b = Hi b
        unfold lookHi
        rw [if_neg z]
  refine ⟨ex, g.ext ex, fun v d im den => im.den den fun b xs => ?_⟩
  have no : ∀ u, Hb b = some u → ((∃ xs, u = .tup xs) ∨ ∃ o xs, u = .frz o xs) → ¬ Owned n W Γ σ b := fun u e hu z => by
    obtain ⟨_, w, hw, w1, w2⟩ := Owned.hi g z
    have e2 := g'.sub b u e
    rw [kp b w hw] at e2
    cases e2
    rcases hu with ⟨xs, hu⟩ | ⟨o, xs, hu⟩
    · exact w1 xs hu
    · exact w2 o xs hu
  constructor
  · intro e
    unfold backHi
    rw [if_neg (no _ e (.inl ⟨_, rfl⟩))]
    exact e
  · intro o e
    unfold backHi
    rw [if_neg (no _ e (.inr ⟨_, _, rfl⟩))]
    exact e
end
section
variable {X : Cx}
def tLook (n : Nat) (t : TE') : TE' := fun Γ Q => t (lookΓ n Γ) fun d _ => Imm d ∧ Q d Γ
def tLookT (n : Nat) (t : TT') : TT' := fun Γ Q => t (lookΓ n Γ) fun b _ => Q b Γ
theorem pe_look {e : Expr} {t : TE'} (h : PE' X e t) : PE' X e (tLook X.N.length t) := by
  refine ⟨PE.weak h.h ?_⟩
  rintro σ H Q ⟨W, Hi, Γ, Q', g, q, fin⟩
  obtain ⟨s1, g1⟩ := g.look
  refine ⟨_, _, _, _, g1, q, ?_⟩
  rintro v H' ⟨Hb, d, Γ', sb, g', den, im, q'⟩
  obtain ⟨s2, g2, hd⟩ := g.unlook sb g'
  exact fin v H' ⟨_, d, Γ, s2.hi, g2, hd v d im den, q'⟩
theorem pt_look {e : Expr} {t : TT'} (h : PT' X e t) : PT' X e (tLookT X.N.length t) := by
  refine ⟨PT.weak h.h ?_⟩
  rintro σ H Q ⟨W, Hi, Γ, Q', g, q, fin⟩
  obtain ⟨s1, g1⟩ := g.look
  refine ⟨_, _, _, _, g1, q, ?_⟩
  intro b H' Hb Γ' sb g' q'
  obtain ⟨s2, g2, hd⟩ := g.unlook sb g'
  exact fin b H' _ Γ s2.hi g2 q'
instance {n : Nat} {t : TE'} [ME t] : ME (tLook n t) := ⟨fun Γ _ _ h q => ME.mono (t := t) _ _ _ (fun _ _ ⟨a, z⟩ => ⟨a, h _ _ z⟩) q⟩
instance {n : Nat} {t : TT'} [MT t] : MT (tLookT n t) := ⟨fun Γ _ _ h q => MT.mono (t := t) _ _ _ (fun _ _ z => h _ _ z) q⟩
/-- x.pop(), x a name's own list -/
def tPop' (i : Nat) : TE' := fun Γ Q => ∃ ds d, Γ[i]? = some (.own (.lst (ds ++ [d]))) ∧ Q d (Γ.set i (.own (.lst ds)))
instance {i : Nat} : ME (tPop' i) := ⟨fun Γ _ _ h ⟨ds, d, e, q⟩ => ⟨ds, d, e, h _ _ q⟩⟩
end
end PL

namespace L2
open PySem PySem.Spec PyProof.Rows
/-! ### dicts with tuple keys, the epoch known -/
section
variable {P : Program} {w : World} {H : Hp} {h : Heap} {a : Addr} {kvs : List (List Key × V)} {ep : Nat}
theorem de_of (ok : HOk P w H h) (e : H a = some (.dE kvs ep)) : kvs.length ≤ sizeLine ∧ (a == sysModules) = false ∧
    ∃ xs, KT H kvs xs ∧ h.DictOfH (tupleKind (mixKind P w)) a xs ∧ ∃ o es, h.get? a = some o ∧ o.ExactDict ∧ o.data = .dict es ep ∧ es.toList = xs.map (entryOfKey (tupleKind (mixKind P w))) := by
  obtain ⟨z, y, xs, r, o, es, h1, h2, h3, h4, h5⟩ := (show ObjOk P w H h a (.dE kvs ep) from ok a _ e)
  refine ⟨z, y, xs, r, ⟨o, es, ep, h1, h2, h3, h4, fun x hx => ?_, h5⟩, o, es, h1, h2, h3, h4⟩
  obtain ⟨j, hj⟩ := List.getElem?_of_mem hx
  have hl : j < kvs.length := by
    rw [Paired.length r]
    exact (List.getElem?_eq_some_iff.mp hj).1
  have q := PL.paired_get j r (List.getElem?_eq_getElem hl) hj
  exact key_of ok (by rw [← q.1]; exact q.2.1)
end
def EGet (H : Hp) (a : Addr) (y : V) (r : Option V) : Prop := ∃ kvs ep k b, H a = some (.dE kvs ep) ∧ y = .ref b ∧ H b = some (.tup (k.map kV)) ∧ r = valV kvs k
section
variable {X : Cx} {pins : List (Addr × Obj)} {σ : St} {H : Hp} {s : Shared} {a : Addr} {y v : V} {u r : Value} {o : Option V} {A : Around} {E : Value → Shared → Prop}
theorem e_typeIs (I : Inv X pins σ H s) (g : EGet H a y o) : s.TypeIs (.ref a) "dict" := by
  obtain ⟨kvs, ep, k, b, e, _⟩ := g
  obtain ⟨_, _, xs, _, dd, _⟩ := de_of I.hok e
  exact dd.typeIs
theorem e_getItem {Q : Value → Shared → Prop} (hu : A.units + 1 < cLine) (I : Inv X pins σ H s) (g : EGet H a y (some v)) (ry : RelV y u) (h : ∀ w' s', Inv X pins σ H s' → RelV v w' → Q w' s') :
    wpAny (model X.prog X.w) A (getItem (.ref a) u) Q E s := by
  obtain ⟨kvs, ep, k, b, e, ey, eb, l⟩ := g
  subst ey
  cases (show u = Value.ref b from ry)
  obtain ⟨z, hd, xs, rel, dd, _⟩ := de_of I.hok e
  obtain ⟨w', hw, rw'⟩ := RelO.some_of (v := v) (o := (atKey xs k).map (·.2)) (by rw [l]; exact rel.val k)
  obtain ⟨p, hp, hp2⟩ := Option.map_eq_some_iff.mp hw
  refine wpAny_getItem_heap (tupleKind_room_in1 hu) (key_of I.hok eb) dd hp ?_
  rw [hp2]
  exact h w' _ (I.tok _) rw'
theorem e_in {Q : Value → Shared → Prop} (hu : A.units + 1 < cLine) (I : Inv X pins σ H s) (g : EGet H a y o) (ry : RelV y u) (h : ∀ s', Inv X pins σ H s' → Q (.bool o.isSome) s') :
    wpAny (model X.prog X.w) A (compareOp .In u (.ref a)) Q E s := by
  obtain ⟨kvs, ep, k, b, e, ey, eb, l⟩ := g
  subst ey
  cases (show u = Value.ref b from ry)
  obtain ⟨z, hd, xs, rel, dd, _⟩ := de_of I.hok e
  refine wpAny_in_heap (tupleKind_room_in1 hu) (key_of I.hok eb) hd dd ?_
  have q := (rel.val k).isSome_eq
  rw [Option.isSome_map] at q
  rw [← q, ← l]
  exact h _ (I.tok _)
theorem e_notIn {Q : Value → Shared → Prop} (hu : A.units + 1 < cLine) (I : Inv X pins σ H s) (g : EGet H a y o) (ry : RelV y u) (h : ∀ s', Inv X pins σ H s' → Q (.bool (!o.isSome)) s') :
    wpAny (model X.prog X.w) A (compareOp .NotIn u (.ref a)) Q E s := by
  obtain ⟨kvs, ep, k, b, e, ey, eb, l⟩ := g
  subst ey
  cases (show u = Value.ref b from ry)
  obtain ⟨z, hd, xs, rel, dd, _⟩ := de_of I.hok e
  refine wpAny_notIn_heap (tupleKind_room_in1 hu) (key_of I.hok eb) hd dd ?_
  have q := (rel.val k).isSome_eq
  rw [Option.isSome_map] at q
  rw [← q, ← l]
  exact h _ (I.tok _)
theorem e_setItem {kvs : List (List Key × V)} {ep : Nat} {k : List Key} {b : Addr} {Q : Unit → Shared → Prop} (hu : A.units + 1 < cLine) (I : Inv X pins σ H s) (e : H a = some (.dE kvs ep)) (eb : H b = some (.tup (k.map kV))) (l : kvs.length < sizeLine) (rv : RelV v r)
    (h : ∀ ep' s', Inv X pins σ (upd H a (.dE (putK kvs k v) ep')) s' → Q () s') : wpAny (model X.prog X.w) A (setItem (.ref a) (.ref b) r) Q E s := by
  obtain ⟨z, hd, xs, rel, dd, _⟩ := de_of I.hok e
  have hz : xs.length ≤ sizeLine := by rw [← Paired.length rel]; exact z
  have hl : (putK kvs k v).length ≤ sizeLine := by have := length_putK kvs k v; omega
  refine wpAny_setItem_heap (hsz := hz) (tupleKind_room_in1 hu) (key_of I.hok eb) dd fun h' dd' hs => ?_
  obtain ⟨q, es, ep', hq, h2, h3, h4, _, h5⟩ := dd'
  refine h ep' _ (d_write I (by rw [e]; exact True.intro) hs ⟨q, hq⟩ ⟨hl, hd, _, (rel.put k eb rv).keeps fun c ys ec => ?_, q, es, hq, h2, h3, h4, h5⟩)
  rw [upd_ne (ne_of ec e (fun z => nomatch z))]
  exact ec
end
section
variable {X : Cx}
theorem ix_dict (hu : X.A.units + 1 < cLine) : IxR X (fun x y H Q => ∃ a v, x = .ref a ∧ EGet H a y (some v) ∧ Q v H) := by
  intro value slice pins s σ H x y v u Q I rx ry h hs
  obtain ⟨a, w, rfl, g, q⟩ := h
  cases rx
  exact tail_any (e_typeIs I g) PySem.F.slot_dict_getitem.lookup (e_getItem hu I g ry fun w' s3 I3 rw' => ⟨w, H, I3, rw', q⟩) hs
theorem op_dIn (hu : X.A.units + 1 < cLine) : OpR X (compareOp .In) (fun x y H Q => ∃ a o, y = .ref a ∧ EGet H a x o ∧ Q (.bl o.isSome) H) := by
  intro pins s σ H x y v u Q I rx ry h
  obtain ⟨a, o, rfl, g, q⟩ := h
  cases ry
  exact e_in hu I g rx fun s' I' => ⟨.bl _, H, I', rfl, q⟩
theorem op_dNotIn (hu : X.A.units + 1 < cLine) : OpR X (compareOp .NotIn) (fun x y H Q => ∃ a o, y = .ref a ∧ EGet H a x o ∧ Q (.bl (!o.isSome)) H) := by
  intro pins s σ H x y v u Q I rx ry h
  obtain ⟨a, o, rfl, g, q⟩ := h
  cases ry
  exact e_notIn hu I g rx fun s' I' => ⟨.bl _, H, I', rfl, q⟩
def sEPut (td ty tv : TE) : TS := fun D σ H => tv σ H fun v H1 => td σ H1 fun x H2 => ty σ H2 fun y H3 => ∃ a kvs ep k b, x = .ref a ∧ H3 a = some (.dE kvs ep) ∧ y = .ref b ∧ H3 b = some (.tup (k.map kV)) ∧ kvs.length < sizeLine ∧ ∀ ep', D.nx σ (upd H3 a (.dE (putK kvs k v) ep'))
theorem ps_eput {o i value : Expr} {pos pos' : Pos} {td ty tv : TE} (hu : X.A.units + 1 < cLine) (ho : PE X o td) (hi : PE X i ty) (hv : PE X value tv) (hs : swapsWith value (some (.Subscript o i pos')) pos.line X.env = pure false) :
    PS X (.Assign [.Subscript o i pos'] value pos) (sEPut td ty tv) := by
  intro pins s σ H D I h
  refine wpAny_Assign_Subscript (thn (hv pins s σ H _ I h) fun r s1 ⟨v, H1, I1, rv, q1⟩ => thn (ho pins s1 σ H1 _ I1 q1) fun u s2 ⟨x, H2, I2, rx, q2⟩ => thn (hi pins s2 σ H2 _ I2 q2) fun iv s3 ⟨y, H3, I3, ry, a, kvs, ep, k, b, ex, e, ey, eb, l, q3⟩ => ?_) hs
  subst ex ey
  obtain rfl : u = Value.ref a := rx
  obtain rfl : iv = Value.ref b := ry
  exact e_setItem hu I3 e eb l rv fun ep' s4 I4 => ⟨σ, _, I4, q3 ep'⟩
theorem de_empty {P : Program} {w : World} {H : Hp} (h : Heap) (hb : sysModules < h.objs.size) : ObjOk P w H (h.push { cls := .type "dict", data := .dict #[] }) h.objs.size (.dE [] 0) :=
  ⟨Nat.zero_le _, beq_eq_false_iff_ne.mpr (Ne.symm (Nat.ne_of_lt hb)), [], .nil, _, #[], Heap.get?_push_size _ rfl, ⟨rfl, rfl, rfl⟩, rfl, rfl, List.nodup_nil⟩
theorem storeAll_one (d : Addr) (k v : Value) : storeAll d [(k, v)] = (dictSet d k v >>= fun _ => pure PUnit.unit) := by
  unfold storeAll
  rw [List.forIn_cons]
  simp only [bind_assoc, pure_bind, List.forIn_nil]
/-- {k: v}, k a tuple -/
def tDispT1 (tk tv : TE) : TE := fun σ H Q => ∀ p, H p = none → tk σ (upd H p (.dE [] 0)) fun x H1 => tv σ H1 fun y H2 => H2 p = some (.dE [] 0) ∧ ∃ b ks, x = .ref b ∧ H2 b = some (.tup (ks.map kV)) ∧ ∀ ep', Q (.ref p) (upd H2 p (.dE [(ks, y)] ep'))
theorem dispT_end (hu : X.A.units + 1 < cLine) {pins : List (Addr × Obj)} {σ : St} {H2 : Hp} {s2 : Shared} {p b : Addr} {ks : List Key} {y : V} {u2 : Value} {Q : Value → Shared → Prop} (I2 : Inv X pins σ H2 s2) (e : H2 p = some (.dE [] 0)) (eb : H2 b = some (.tup (ks.map kV))) (r2 : RelV y u2)
    (h : ∀ ep' s3, Inv X pins σ (upd H2 p (.dE [(ks, y)] ep')) s3 → Q (.ref p) s3) : wpAny (model X.prog X.w) X.A (storeAll p [(Value.ref b, u2)]) (fun _ s3 => Q (.ref p) s3) X.xe s2 := by
  rw [storeAll_one]
  obtain ⟨z, hd, xs, rel, dd, _⟩ := de_of I2.hok e
  obtain rfl : xs = [] := by
    have := Paired.length rel
    exact List.eq_nil_of_length_eq_zero this.symm
  refine wpAny_bind (wpAny_dictSet_heap (hsz := Nat.zero_le _) (knd := tupleKind (mixKind X.prog X.w)) (show X.A.units < cLine by omega) (key_of I2.hok eb) dd fun h' dd' hs => ?_)
  obtain ⟨q, es, ep', hq, h2, h3, h4, _, h5⟩ := dd'
  have hk : KT H2 (putK [] ks y) (storedH [] ks b u2) := KT.put (kvs := []) (xs := []) .nil ks eb r2
  have hp : putK ([] : List (List Key × V)) ks y = [(ks, y)] := rfl
  rw [hp] at hk
  have ok : ObjOk X.prog X.w (upd H2 p (.dE [(ks, y)] ep')) h' p (.dE [(ks, y)] ep') := by
    refine ⟨?_, hd, _, hk.keeps fun c ys ec => ?_, q, es, hq, h2, h3, h4, h5⟩
    · rw [sizeLine_eq]; exact Nat.le_of_ble_eq_true rfl
    · rw [upd_ne (ne_of ec e (fun z => nomatch z))]
      exact ec
  exact wpAny_pure (h ep' _ (d_write I2 (by rw [e]; exact True.intro) hs ⟨q, hq⟩ ok))
theorem pe_dispT1 (hu : X.A.units + 1 < cLine) {k v : Expr} {tk tv : TE} {pos : Pos} (hk : PE X k tk) (hv : PE X v tv) : PE X (.Dict [some k] [v] pos) (tDispT1 tk tv) := by
  intro pins s σ H Q I q
  have hn := I.hok.fresh (Nat.le_refl s.heap.objs.size)
  have I1 := I.laid (a := s.heap.objs.size) (o := .dE [] 0) (h' := s.heap.push { cls := .type "dict", data := .dict #[] }) (t' := s.toks) (fun _ _ q => Heap.get?_push_of_some _ q) (Nat.le_refl _) (de_empty s.heap I.big)
  refine wpAny_Dict_any rfl rfl (fun z => nomatch z) (Nat.le_of_ble_eq_true rfl) ?_
  refine pairTrees_cons_walk (thn (hk pins _ σ _ _ I1 (q _ hn)) fun u1 s1 ⟨x, H1, J1, rx, q1⟩ => thn (hv pins s1 σ H1 _ J1 q1) fun u2 s2 ⟨y, H2, I2, ry, e, b, ks, ex, eb, q2⟩ => pairTrees_nil_walk ?_)
  subst ex
  obtain rfl : u1 = Value.ref b := rx
  exact dispT_end hu I2 e eb ry fun ep' s3 I3 => ⟨.ref s.heap.objs.size, _, I3, rfl, q2 ep'⟩
end
end L2
namespace PL
open PySem L2
/-! ### keys -/
section
variable {K : PySem.W.Frag} {H Hi : Hp}
theorem den_key {v : V} : ∀ {k : Key}, Den K H v (keyD k) → v = kV k
  | .inl i, h => h.intI
  | .inr x, h => h.strI
theorem den_keys : ∀ {vs : List V} {ks : List Key}, DenL K H vs (ks.map keyD) → vs = ks.map kV
  | [], [], _ => rfl
  | [], _ :: _, h => nomatch h
  | _ :: _, [], h => nomatch h
  | v :: vs, k :: ks, .cons r t => by rw [List.map_cons, ← den_key r, ← den_keys t]
theorem keyD_inj {a b : Key} (h : keyD a = keyD b) : a = b := by
  cases a with
  | inl i => cases b with
    | inl j => injection h with h; rw [h]
    | inr y => cases h
  | inr x => cases b with
    | inl j => cases h
    | inr y =>
      injection h with h
      obtain ⟨⟨x⟩⟩ := x
      obtain ⟨⟨y⟩⟩ := y
      exact congrArg (fun l => Sum.inr (Str.mk ⟨l⟩)) h
theorem keysD_inj : ∀ {a b : List Key}, a.map keyD = b.map keyD → a = b
  | [], [], _ => rfl
  | [], _ :: _, h => nomatch h
  | _ :: _, [], h => nomatch h
  | x :: a, y :: b, h => by
    injection h with h1 h2
    rw [keyD_inj h1, keysD_inj h2]
theorem den_keyT {v : V} {ks : List Key} (h : Den K Hi v (.tup (ks.map keyD))) : ∃ b, v = .ref b ∧ Hi b = some (.tup (ks.map kV)) := by
  obtain ⟨a, vs, rfl, h1, h2⟩ := h.tupJ
  rw [den_keys h2] at h1
  exact ⟨a, rfl, h1⟩
open Classical in
noncomputable def dFind (ds : List (D × D)) (k : D) : Option D := (ds.find? fun p => decide (p.1 = k)).map (·.2)
open Classical in
noncomputable def dPut (ds : List (D × D)) (k v : D) : List (D × D) := if (dFind ds k).isSome = true then ds.map (fun p => if p.1 = k then (p.1, v) else p) else ds ++ [(k, v)]
theorem dFind_pos {p : D × D} {r : List (D × D)} {k : D} (e : p.1 = k) : dFind (p :: r) k = some p.2 := by simp [dFind, List.find?_cons, e]
theorem dFind_neg {p : D × D} {r : List (D × D)} {k : D} (e : ¬ p.1 = k) : dFind (p :: r) k = dFind r k := by simp [dFind, List.find?_cons, e]
inductive OptD (K : PySem.W.Frag) (H : Hp) : Option V → Option D → Prop where
  | none : OptD K H none none
  | some {v : V} {d : D} (h : Den K H v d) : OptD K H (some v) (some d)
theorem findT {kvs : List (List Key × V)} {ds : List (D × D)} (r : DenT K H kvs ds) (ks : List Key) : OptD K H (valV kvs ks) (dFind ds (.tup (ks.map keyD))) := by
  induction r with
  | nil => exact .none
  | @cons p q ps qs h t ih =>
    by_cases e : p.1 = ks
    · rw [valV_pos e, dFind_pos (h.1.trans (by rw [e]))]
      exact .some h.2
    · rw [valV_neg e, dFind_neg (fun z => e (keysD_inj (by
        have := h.1.symm.trans z
        injection this)))]
      exact ih
theorem OptD.isSome {o : Option V} {d : Option D} (h : OptD K H o d) : o.isSome = d.isSome := by cases h <;> rfl
open Classical in
theorem replT {ks : List Key} {v : V} {d : D} (h : Den K H v d) {kvs : List (List Key × V)} {ds : List (D × D)} (r : DenT K H kvs ds) : DenT K H (kvs.map fun kv => if kv.1 = ks then (kv.1, v) else kv) (ds.map fun p => if p.1 = .tup (ks.map keyD) then (p.1, d) else p) := by
  induction r with
  | nil => exact .nil
  | @cons p q ps qs hh t ih =>
    rw [List.map_cons, List.map_cons]
    refine .cons ?_ ih
    by_cases e : p.1 = ks
    · rw [if_pos e, if_pos (hh.1.trans (by rw [e]))]
      exact ⟨hh.1, h⟩
    · rw [if_neg e, if_neg (fun z => e (keysD_inj (by
        have := hh.1.symm.trans z
        injection this)))]
      exact hh
theorem putT {kvs : List (List Key × V)} {ds : List (D × D)} (r : DenT K H kvs ds) (ks : List Key) {v : V} {d : D} (h : Den K H v d) : DenT K H (putK kvs ks v) (dPut ds (.tup (ks.map keyD)) d) := by
  unfold putK dPut
  rw [valV_any, (findT r ks).isSome]
  split
  · exact replT h r
  · exact paired_app r (.cons ⟨rfl, h⟩ .nil)
end
/-! ### reading dicts with tuple keys -/
section
variable {X : Cx}
def rGetT : R2' := fun x y Q => ∃ (ds : List (D × D)) (ks : List Key) (v : D), x = .dit ds ∧ y = .tup (ks.map keyD) ∧ dFind ds y = some v ∧ Q v
def rInT (neg : Bool) : R2' := fun x y Q => ∃ (ks : List Key) (ds : List (D × D)), x = .tup (ks.map keyD) ∧ y = .dit ds ∧ Q (.bl (if neg then !(dFind ds x).isSome else (dFind ds x).isSome))
theorem dgetT {K : PySem.W.Frag} {Hi H : Hp} {x y : V} {ds : List (D × D)} {ks : List Key} (s : Fz Hi H) (d1 : Den K Hi x (.dit ds)) (d2 : Den K Hi y (.tup (ks.map keyD))) : ∃ a o, x = .ref a ∧ EGet H a y o ∧ OptD K Hi o (dFind ds (.tup (ks.map keyD))) := by
  obtain ⟨a, kvs, ep, rfl, h1, h2⟩ := d1.ditI
  obtain ⟨b, rfl, h3⟩ := den_keyT d2
  exact ⟨a, _, rfl, ⟨kvs, ep, ks, b, s.sub _ _ h1, rfl, s.sub _ _ h3, rfl⟩, findT h2 ks⟩
theorem i_dit (hu : X.A.units + 1 < cLine) : Ixs X rGetT := ⟨_, ix_dict hu, by
  rintro Hi H x y dx dy Q Q2 s d1 d2 ⟨ds, ks, v, rfl, rfl, e, q⟩ fin
  obtain ⟨a, o, rfl, g, r⟩ := dgetT s d1 d2
  rw [e] at r
  cases r with
  | some h => exact ⟨a, _, rfl, g, fin Hi H _ _ (Ext.refl s) h q⟩⟩
theorem o_inT (hu : X.A.units + 1 < cLine) : Op2 X (compareOp .In) (rInT false) := ⟨_, op_dIn hu, by
  rintro Hi H x y dx dy Q Q2 s d1 d2 ⟨ks, ds, rfl, rfl, q⟩ fin
  obtain ⟨a, o, rfl, g, r⟩ := dgetT s d2 d1
  refine ⟨a, o, rfl, g, ?_⟩
  rw [r.isSome]
  exact fin Hi H _ _ (Ext.refl s) (.bl _) q⟩
theorem o_notInT (hu : X.A.units + 1 < cLine) : Op2 X (compareOp .NotIn) (rInT true) := ⟨_, op_dNotIn hu, by
  rintro Hi H x y dx dy Q Q2 s d1 d2 ⟨ks, ds, rfl, rfl, q⟩ fin
  obtain ⟨a, o, rfl, g, r⟩ := dgetT s d2 d1
  refine ⟨a, o, rfl, g, ?_⟩
  rw [r.isSome]
  exact fin Hi H _ _ (Ext.refl s) (.bl _) q⟩
/-- x[k] = v, x a name's own dict with tuple keys -/
def tDPutT (i : Nat) (tk tv : TE') : TS' := fun N Γ => tv Γ fun v Γ1 => (∃ ds0, Γ1[i]? = some (.own (.dit ds0))) ∧ tk Γ1 fun k Γ2 => ∃ (ds : List (D × D)) (ks : List Key), Γ2[i]? = some (.own (.dit ds)) ∧ k = .tup (ks.map keyD) ∧ ds.length < sizeLine ∧ N.nx (Γ2.set i (.own (.dit (dPut ds k v))))
theorem ps_dputT (hu : X.A.units + 1 < cLine) (i : Nat) {x : Str} {k value : Expr} {tk tv : TE'} {p pos pos' : Pos} (hk : PE' X k tk) (hv : PE' X value tv) (hN : X.N[i]? = some x := by rfl) (hvi : Vis X.env.scope x := by first | exact Or.inl rfl | exact Or.inr (Or.inl rfl) | exact Or.inr (Or.inr rfl)) (hd : (x == ("__debug__" : Str)) = false := by decide)
    (hcd : (x == ("__classdict__" : Str)) = false := by decide) (hs : swapsWith value (some (.Subscript (.Name x p) k pos')) pos.line X.env = pure false := by rfl) :
    PS' X (.Assign [.Subscript (.Name x p) k pos'] value pos) (tDPutT i tk tv) := by
  refine ⟨PS.weak (ps_eput hu (pe_var (i := i) (pos := p) hN hvi hd hcd) hk.h hv.h hs) ?_⟩
  rintro N2 σ H ⟨W, Hi, Γ, N, g, q, l⟩
  have hi : i < X.N.length := (List.getElem?_eq_some_iff.mp hN).1
  refine ⟨W, Hi, Γ, _, g, q, ?_⟩
  rintro v H1 ⟨Hi1, d, Γ1, s1, g1, den, ⟨ds0, e0⟩, q1⟩
  obtain ⟨a, h1, h2, h3, kvs0, ep0, h4, h5⟩ := g1.own i _ e0
  refine ⟨.ref a, adr_lt hi h1, W, Hi1, Γ1, _, g1, q1, ?_⟩
  rintro y H2 ⟨Hi2, dk, Γ2, s2, g2, den2, ds, ks, e2, rfl, hl, q2⟩
  obtain ⟨a', k1, k2, k3, kvs, ep, k4, k5⟩ := g2.own i _ e2
  rw [h1] at k1
  cases k1
  obtain ⟨b, rfl, hb⟩ := den_keyT den2
  refine ⟨a, kvs, ep, ks, b, rfl, k4, rfl, g2.sub _ _ hb, by rw [paired_len k5]; exact hl, fun ep' => ?_⟩
  exact l.nx σ _ Hi2 _ (s1.trans s2) (g2.put (o := .dit (dPut ds (.tup (ks.map keyD)) d)) e2 h1 ⟨_, _, upd_same, putT k5 ks (den.mono s2)⟩) q2
instance {i : Nat} {tk tv : TE'} [ME tk] [ME tv] : MS (tDPutT i tk tv) := ⟨fun N N' Γ h q => ME.mono (t := tv) _ _ _ (fun _ _ ⟨a, z⟩ => ⟨a, ME.mono (t := tk) _ _ _ (fun _ _ ⟨ds, ks, e1, e2, e3, w⟩ => ⟨ds, ks, e1, e2, e3, h.nx _ w⟩) z⟩) q⟩
/-- a thing that no name owns is changed -/
theorem Good.putN {K : PySem.W.Frag} {n : Nat} {W : Wd} {Hi H : Hp} {Γ : Sts} {σ : St} {p : Addr} {u : HO} (g : Good K n W Hi Γ σ H) (h0 : Hi p = none) (h1 : W.H₀ p = none) (ne : ∀ (j : Nat) o', Γ[j]? = some (.own o') → adr n W σ j ≠ some p) (hu : ∀ xs, u ≠ .tup xs) : Good K n W Hi Γ σ (upd H p u) := by
  refine ⟨g.len, ⟨fun b w q => ?_, fun b xs q => ?_⟩, fun b w q nf => ?_, fun b w q => ?_, g.fro, g.val, fun j o e => ?_, g.apart, g.par⟩
  · rw [upd_ne (fun z => by rw [z, h0] at q; cases q)]
    exact g.sub b w q
  · by_cases hb : b = p
    · subst hb
      rw [upd_same] at q
      exact absurd (Option.some.inj q) (hu xs)
    · rw [upd_ne hb] at q
      exact g.fz.tups b xs q
  · rw [upd_ne (fun z => by rw [z, h1] at q; cases q)]
    exact g.keep b w q nf
  · rw [upd_ne (fun z => by rw [z, h1] at q; cases q)]
    exact g.there b w q
  · obtain ⟨b, q1, q2, q3, q4⟩ := g.own j o e
    have hb : b ≠ p := fun z => ne j o e (by rw [← z]; exact q1)
    exact ⟨b, q1, q2, q3, q4.mono (Same.refl _) fun w hw => by rw [upd_ne hb]; exact hw⟩
/-- {k: v}, k a tuple -/
def tDispT (n : Nat) (tk tv : TE') : TO' := fun Γ Q => tk (lookΓ n Γ) fun k _ => Imm k ∧ tv (lookΓ n Γ) fun v _ => Imm v ∧ (∃ ks : List Key, k = .tup (ks.map keyD)) ∧ Q (.dit [(k, v)]) Γ
theorem po_dispT (hu : X.A.units + 1 < cLine) {k v : Expr} {tk tv : TE'} {pos : Pos} (hk : PE' X k tk) (hv : PE' X v tv) : PO' X (.Dict [some k] [v] pos) (tDispT X.N.length tk tv) := by
  refine ⟨PE.weak (pe_dispT1 hu hk.h hv.h) ?_⟩
  rintro σ H Q ⟨W, Hi, Γ, Q', g, h, fin⟩
  intro p hp
  have new := New.mk' (u := .dE [] 0) (o := .dit []) g hp ⟨[], 0, upd_same, .nil⟩
  have e0 : Ext Hi H Hi (upd H p (.dE [] 0)) := Ext.newO g.fz hp _ (fun _ z => by cases z)
  have g0 := g.ext e0
  obtain ⟨s1, g1⟩ := g0.look
  refine ⟨_, _, _, _, g1, h, ?_⟩
  rintro x H1 ⟨Hb, dk, Γ', sb, g', den, im, h'⟩
  obtain ⟨x1, y1, hd1⟩ := g0.unlook sb g'
  have den1 := hd1 x dk im den
  obtain ⟨s2, g2⟩ := y1.look
  refine ⟨_, _, _, _, g2, h', ?_⟩
  rintro y H2 ⟨Hc, dv, Γ'', sc, g'', den2, im2, ⟨ks, rfl⟩, q⟩
  obtain ⟨x2, y2, hd2⟩ := y1.unlook sc g''
  have den3 := hd2 y dv im2 den2
  have ep : H2 p = some (.dE [] 0) := x2.h _ _ (x1.h _ _ upd_same)
  have hi0 : _ = _ := (x2.fro p _ (x1.h _ _ upd_same)).trans (x1.fro p _ upd_same)
  obtain ⟨b, rfl, hb⟩ := den_keyT den1
  refine ⟨ep, b, ks, rfl, x2.h _ _ (y1.sub _ _ hb), fun ep' => ?_⟩
  refine fin p _ _ Γ (.dit [(.tup (ks.map keyD), dv)]) (x1.hi.trans x2.hi) (y2.putN (hi0.trans new.hi) new.h0 new.ne (fun _ z => by cases z)) ⟨hi0.trans new.hi, new.h0, new.ne, ⟨[(ks, y)], ep', upd_same, .cons ⟨rfl, den3⟩ .nil⟩⟩ q
instance {n : Nat} {tk tv : TE'} [ME tk] [ME tv] : MO (tDispT n tk tv) := ⟨fun Γ _ _ h q => ME.mono (t := tk) _ _ _ (fun _ _ ⟨a, z⟩ => ⟨a, ME.mono (t := tv) _ _ _ (fun _ _ ⟨a, b, w⟩ => ⟨a, b, h _ _ w⟩) z⟩) q⟩
instance : MR2 rGetT := ⟨fun _ _ _ _ h ⟨ds, ks, v, a, b, c, q⟩ => ⟨ds, ks, v, a, b, c, h _ q⟩⟩
instance {b : Bool} : MR2 (rInT b) := ⟨fun _ _ _ _ h ⟨ks, ds, a, b, q⟩ => ⟨ks, ds, a, b, h _ q⟩⟩
end
end PL

/-! ### a walk over the keys of a dict, by its object alone -/
namespace PySem
section
variable {prog : Program} {w : World} {A : Around} {E : Value → Shared → Prop} {s : Shared} {dd kk : Addr} {ob : Obj} {ens : Array DictEntry} {tick nn : Nat}
theorem dictTypeIs (hob : s.heap.get? dd = some ob) (hex : ob.ExactDict) : s.TypeIs (.ref dd) "dict" := ⟨ob, hob, hex.1⟩
theorem keysOf_start {Q : Value → Shared → Prop} (hsys : (dd == sysModules) = false) (hob : s.heap.get? dd = some ob) (hex : ob.ExactDict) (hdt : ob.data = .dict ens tick)
    (fin : Q (.ref s.heap.objs.size) { s with heap := s.heap.push { cls := .type "dict_keyiterator", data := .fields #[.ref dd, .int 0 0, .int ens.size 0, .int tick 0] } }) :
    wpAny (model prog w) A (pyIter (.ref dd)) Q E s := by
  have ty := dictTypeIs hob hex
  refine wpAny_pyIter_slot ty F.slot_dict_iter (wpAny_call_entry F.slot_dict_iter ty F.entry_dict_iter ?_ (F.args_dict_iter_1 _))
  unfold Builtin.«dict.__iter__» Builtin.Dict.dictSlotNone
  refine wpAny_bind (wpAny_bind (wpAny_notOrdered_dict ty ?_))
  show wpAny _ _ (pure (Value.ref dd)) _ _ s
  refine wpAny_pure (show wpAny _ _ (Builtin.Dict.showsAll dd >>= _) _ _ s from ?_)
  unfold Builtin.Dict.showsAll
  rw [if_neg (by rw [hsys]; exact Bool.false_ne_true)]
  refine wpAny_bind (wpAny_pure (wpAny_bind (wpAny_dictEntries hob hdt (wpAny_bind (wpAny_dictEpoch hob hdt ?_)))))
  refine wpAny_bind (wpAny_newObj_type (wpAny_pure ⟨_, rfl, "dict_keyiterator", _, ⟨_, Heap.get?_push_size _ rfl, rfl⟩, F.slot_dict_keyiterator_next.lookup, ?_⟩))
  simpa [rawInt] using fin
theorem keysOf_next {ii : Nat} {Q : Option Value → Shared → Prop} (st : s.heap.IsKeyIter kk dd ii ens.size tick) (hob : s.heap.get? dd = some ob) (hdt : ob.data = .dict ens tick) (lt : ii < ens.size)
    (fin : ∀ h2, h2.IsKeyIter kk dd (ii + 1) ens.size tick → Heap.SameBut kk s.heap h2 → Q (some ens[ii].key) { s with heap := h2 }) : wpAny (model prog w) A (pyNext (.ref kk)) Q E s := by
  obtain ⟨ki, hki, hkc, hkd⟩ := id st
  have ty := st.typeIs
  unfold pyNext
  refine wpAny_bind (wpAny_attempt (wpAny_callSpecial?_slot (name := Str.ofString "__next__") ty F.slot_dict_keyiterator_next (wpAny_call_entry F.slot_dict_keyiterator_next ty F.entry_dict_keyiterator_next ?_ (F.args_dict_keyiterator_next_1 _))))
  refine wpAny_bind (wpAny_pure (wpAny_bind (wpAny_bind ?_)))
  first
    | refine wpAny_bind (wpAny_typeNameOfWhole_keyiter ty (wpAny_pure (wpAny_bind (wpAny_fieldsOf hki hkd ?_))))
    | refine wpAny_bind (wpAny_typeNameOf_keyiter ty (wpAny_pure (wpAny_bind (wpAny_fieldsOf hki hkd ?_))))
  simp only [show Builtin.Dict_items.ownsTuple "dict_keyiterator" = false by decide, Bool.false_eq_true, if_false]
  show wpAny _ _ (if (Value.ref dd == Value.none) = true then _ else _) _ _ s
  rw [if_neg (show ¬ ((Value.ref dd == Value.none) = true) from Bool.false_ne_true)]
  refine wpAny_bind (wpAny_pure (wpAny_bind (wpAny_dictEntries hob hdt ?_)))
  rw [if_neg (by simp)]
  refine wpAny_bind (wpAny_pure (wpAny_bind (wpAny_dictEpoch hob hdt ?_)))
  rw [if_neg (by simp)]
  refine wpAny_pure ?_
  simp only [show ¬ ((ii : Int) < 0) from by omega, if_false, Int.toNat_natCast, Array.getElem?_eq_getElem lt]
  refine wpAny_bind ?_
  first
    | refine wpAny_bind (wpAny_typeNameOfWhole_keyiter ty (wpAny_pure (wpAny_bind (wpAny_isOneOf_keyiter ty ?_))))
    | refine wpAny_bind (wpAny_typeNameOf_keyiter ty (wpAny_pure (wpAny_bind (wpAny_isOneOf_keyiter ty ?_))))
  show wpAny _ _ (setField (.ref kk) 1 (rawInt ((ii : Int) + 1)) >>= _) _ _ s
  have st2 : (s.heap.update kk (Obj.mapFields (·.setIfInBounds 1 (rawInt ((ii : Int) + 1))))).IsKeyIter kk dd (ii + 1) ens.size tick :=
    ⟨_, Heap.get?_update_self _ hki (Obj.isFreed_of_fields (Obj.data_mapFields hkd _)), (Obj.cls_mapFields ..).trans hkc, by rw [Obj.data_mapFields hkd]; simp [rawInt]⟩
  refine wpAny_bind (wpAny_setField hki hkd (by simp) (wpAny_bind (wpAny_holding ?_)))
  refine wpAny_bind (wpAny_isOneOf_keyiter (s := { s with heap := s.heap.update kk (Obj.mapFields (·.setIfInBounds 1 (rawInt ((ii : Int) + 1)))) }) st2.typeIs ?_)
  show wpAny _ _ (pure ens[ii].key) _ _ _
  exact wpAny_pure (wpAny_pure ⟨_, rfl, wpAny_pure (fin _ st2 (Heap.SameBut.update ..))⟩)
theorem keysOf_end {ii : Nat} {Q : Option Value → Shared → Prop} (calm : A.handled = none) (st : s.heap.IsKeyIter kk dd ii ens.size tick) (hob : s.heap.get? dd = some ob) (hdt : ob.data = .dict ens tick) (ge : ens.size ≤ ii)
    (fin : ∀ h2, Heap.ExtBut kk s.heap h2 → Q none { s with heap := h2 }) : wpAny (model prog w) A (pyNext (.ref kk)) Q E s := by
  obtain ⟨ki, hki, hkc, hkd⟩ := id st
  have ty := st.typeIs
  unfold pyNext
  refine wpAny_bind (wpAny_attempt (wpAny_callSpecial?_slot (name := Str.ofString "__next__") ty F.slot_dict_keyiterator_next (wpAny_call_entry F.slot_dict_keyiterator_next ty F.entry_dict_keyiterator_next ?_ (F.args_dict_keyiterator_next_1 _))))
  refine wpAny_bind (wpAny_pure (wpAny_bind (wpAny_bind ?_)))
  first
    | refine wpAny_bind (wpAny_typeNameOfWhole_keyiter ty (wpAny_pure (wpAny_bind (wpAny_fieldsOf hki hkd ?_))))
    | refine wpAny_bind (wpAny_typeNameOf_keyiter ty (wpAny_pure (wpAny_bind (wpAny_fieldsOf hki hkd ?_))))
  simp only [show Builtin.Dict_items.ownsTuple "dict_keyiterator" = false by decide, Bool.false_eq_true, if_false]
  show wpAny _ _ (if (Value.ref dd == Value.none) = true then _ else _) _ _ s
  rw [if_neg (show ¬ ((Value.ref dd == Value.none) = true) from Bool.false_ne_true)]
  refine wpAny_bind (wpAny_pure (wpAny_bind (wpAny_dictEntries hob hdt ?_)))
  rw [if_neg (by simp)]
  refine wpAny_bind (wpAny_pure (wpAny_bind (wpAny_dictEpoch hob hdt ?_)))
  rw [if_neg (by simp)]
  refine wpAny_pure ?_
  simp only [show ¬ ((ii : Int) < 0) from by omega, if_false, Int.toNat_natCast, Array.getElem?_eq_none ge]
  refine wpAny_bind ?_
  first
    | refine wpAny_bind (wpAny_typeNameOfWhole_keyiter ty (wpAny_pure ?_))
    | refine wpAny_bind (wpAny_typeNameOf_keyiter ty (wpAny_pure ?_))
  show wpAny _ _ (setField (.ref kk) 0 .none >>= _) _ _ s
  refine wpAny_bind (wpAny_setField hki hkd (by simp) (show wpAny _ _ (newExc (.type "StopIteration") [] >>= _) _ _ _ from wpAny_bind ?_))
  simp only [newExc, newTuple]
  apply wpAny_bind
  refine wpAny_newObj_type ?_ (by size_fits)
  refine wpAny_bind (m := firstArgMember _ _) (wpAny_of_eq (a := Value.none) (by first | rfl | (simp only [firstArgMember]; rfl)) (wpAny_newObj_type ?_ (by size_fits)))
  simp only [raiseNew]
  refine wpAny_bind (wpAny_handled ?_)
  rw [show A.in1.handled = none from calm]
  refine (wpAny_bind (wpAny_pure (wpAny_throw ?_)))
  refine wpAny_bind (wpAny_isInstance (T := "StopIteration") (b := true) ⟨_, Heap.get?_push_size _ rfl, rfl⟩ isSubtype_stop (wpAny_pure (fin _ ?_)))
  exact ((Heap.SameBut.update ..).extBut.push _).push _
end
end PySem
namespace L2
open PySem PySem.Spec PyProof.Rows
section
variable {X : Cx} {tg : Expr}
end
end L2
namespace PL
open PySem L2
theorem kV_den1 {K : PySem.W.Frag} {Hi : Hp} : ∀ k : Key, Den K Hi (kV k) (keyD k)
  | .inl i => .int i
  | .inr x => by
    have e : kV (.inr x) = .str (st x.cps.toList) := by
      show V.str x = _
      rfl
    rw [e]
    exact .str _
theorem kV_den {K : PySem.W.Frag} {Hi : Hp} : ∀ ks : List Key, DenL K Hi (ks.map kV) (ks.map keyD)
  | [] => .nil
  | k :: ks => .cons (kV_den1 k) (kV_den ks)
def iKeys' (t : TE') : TI' := fun Γ Q => t Γ fun d Γ1 => ∃ ds, d = .dit ds ∧ Q (ds.map (·.1)) Γ1
instance {t : TE'} [ME t] : MI (iKeys' t) := ⟨fun Γ _ _ h q => ME.mono (t := t) _ _ _ (fun _ _ ⟨ds, e, z⟩ => ⟨ds, e, h _ _ z⟩) q⟩
end PL

namespace PySem
section
variable {prog : Program} {w : World} {A : Around} {E : Value → Shared → Prop} {s : Shared} {dd kk : Addr} {ob : Obj} {ens : Array DictEntry} {tick nn : Nat}
theorem rawLen {Q : Value → Shared → Prop} (hsys : (dd == sysModules) = false) (hob : s.heap.get? dd = some ob) (hex : ob.ExactDict) (hdt : ob.data = .dict ens tick) (fin : Q (.int ens.size s.toks) { s with toks := s.toks + 1 }) :
    wpAny (model prog w) A (call (.builtin "dict.__len__") [.ref dd]) Q E s := by
  have ty := dictTypeIs hob hex
  refine wpAny_call_entry F.slot_dict_len ty F.entry_dict_len ?_ (F.args_dict_len_1 _)
  show wpAny _ _ (dictSize dd >>= _) _ _ s
  unfold dictSize
  refine wpAny_bind (wpAny_bind (wpAny_dictEntries hob hdt (wpAny_pure (show wpAny _ _ (Builtin.Dict.pendingCount dd >>= _) _ _ s from wpAny_bind (wpAny_pendingCount_other hsys ?_)))))
  refine wpAny_ret_mkInt ?_
  have z : ((ens.size : Int) + ((0 : Nat) : Int)) = ens.size := by omega
  first
    | exact fin
    | (rw [z]; exact fin)
    | (refine ⟨_, rfl, ?_⟩; simpa using fin)
theorem lenOf {Q : Value → Shared → Prop} (hsys : (dd == sysModules) = false) (hob : s.heap.get? dd = some ob) (hex : ob.ExactDict) (hdt : ob.data = .dict ens tick) (few : ens.size ≤ sizeLine) (fin : Q (.int ens.size (s.toks + 1)) { s with toks := s.toks + 1 + 1 }) :
    wpAny (model prog w) A (call (.builtin "len") [.ref dd]) Q E s :=
  PyProof.Rows.call_len_slot (n := ens.size) (dictTypeIs hob hex) F.slot_dict_len (fun Q' hq => rawLen hsys hob hex hdt hq) (by omega) (by rw [sizeLine_eq] at few; omega) fin
theorem hintOf {Q : Bool → Shared → Prop} (hob : s.heap.get? dd = some ob) (hex : ob.ExactDict) (fin : Q false s) : wpAny (model prog w) A (Builtin.List.listLengthHint (.ref dd)) Q E s := by
  have ty := dictTypeIs hob hex
  unfold Builtin.List.listLengthHint
  refine wpAny_bind (wpAny_specialOf ty F.slot_dict_len.lookup ?_)
  generalize hid : ("dict.__len__" : String) = id0
  wp_delta
  rw [show splitId id0 = some ("dict", "__len__") from by subst hid; decide +kernel]
  subst hid
  refine wpAny_bind (wpAny_isInstance (T := "dict") (b := true) ty (by rw [isSubtype_type]; kernel_rfl) ?_)
  refine wpAny_ite_split (fun z => absurd z (by decide)) (fun _ => ?_)
  refine wpAny_ite_split (fun _ => ?_) (fun z => absurd (by decide +kernel) z)
  refine wpAny_bind (wpAny_typeOf ty ?_)
  exact wpAny_pure fin
theorem walkKeys (calm : A.handled = none) (hne : dd ≠ kk) (hdt : ob.data = .dict ens tick) : Walks prog w A kk [kk, dd] [kk] ens.size (fun i v => ∃ e, ens[i]? = some e ∧ v = e.key) (fun i h => h.IsKeyIter kk dd i ens.size tick ∧ h.get? dd = some ob) where
  sub := fun b hb => by
    have e : b = kk := by simpa using hb
    simp [e]
  frame := fun _ _ _ st hk => ⟨st.1.at fun o e => hk kk (by simp) o e, hk dd (by simp) _ st.2⟩
  item := fun i s Q E hi st hQ => keysOf_next st.1 st.2 hdt hi fun h2 st2 sb => hQ _ h2 s.toks ⟨_, Array.getElem?_eq_getElem hi, rfl⟩ ⟨st2, (sb.2 dd hne).trans st.2⟩ fun b o hb e => (sb.2 b (fun z => hb (by simp [z]))).trans e
  done := fun s Q E st hQ => keysOf_end calm st.1 st.2 hdt (Nat.le_refl _) fun h2 eb => hQ h2 s.toks fun b o hb e => eb b o (fun z => hb (by simp [z])) e
  self := fun _ _ _ _ st hQ => wpAny_pyIter_keyiter st.1 hQ
theorem extendKeys {R : Result → Shared → Prop} {S : Addr} {res : Value} {c₀ : Nat} (calm : A.handled = none) (hsys : (dd == sysModules) = false) (hob : s.heap.get? dd = some ob) (hex : ob.ExactDict) (hdt : ob.data = .dict ens tick) (few : ens.size ≤ sizeLine) (hne : S ≠ dd) (hS : s.heap.get? S = some { cls := .type "list", data := .seq #[] c₀ })
    (fin : ∀ h2 tk acc c2, (∀ b o, b ≠ S → s.heap.get? b = some o → h2.get? b = some o) → h2.get? S = some { cls := .type "list", dict := none, data := .seq acc c2, slots := #[] } → ItemsOf (fun i v => ∃ e, ens[i]? = some e ∧ v = e.key) acc ens.size → R (.ok (.ret res)) { s with heap := h2, toks := tk }) :
    wpAny (model prog w) A.in1 (Builtin.List.listExtendWith (.ref S) (.ref dd) res) (fun f s' => match f with | .done f => R (.ok f) s' | .again c' => c'.quiet = true ∧ codeAny (model prog w) A c' R s') (fun e s' => R (.error e) s') s := by
  have hSlt : S < s.heap.objs.size := Heap.lt_size hS
  have hSI : S ≠ s.heap.objs.size := Nat.ne_of_lt hSlt
  have hdI : dd ≠ s.heap.objs.size := Nat.ne_of_lt (Heap.lt_size hob)
  have hSf : S ∉ [s.heap.objs.size, dd] := fun hm => by
    rcases List.mem_cons.mp hm with z | z
    · exact hSI z
    · exact hne (List.mem_singleton.mp z)
  have W := (walkKeys (prog := prog) (w := w) (A := A.in1) (kk := s.heap.objs.size) calm hdI hdt).toS
  have loop : ∀ (h : Heap) (c₁ tk : Nat), h.IsKeyIter s.heap.objs.size dd 0 ens.size tick → h.get? dd = some ob → (∀ b o, b ≠ S → s.heap.get? b = some o → h.get? b = some o) →
      h.get? S = some { cls := .type "list", data := .seq #[] c₁ } → codeAny (model prog w) A (.builtin "list.extend.loop" ⟨[.ref S, .ref s.heap.objs.size, res], []⟩) R { s with heap := h, toks := tk } := by
    intro h c₁ tk hit hod hk hS₁
    refine codeAny_extend_loopS W few S hSf res ens.size 0 _ #[] c₁ rfl (Nat.zero_le _) ⟨hit, hod⟩ hS₁ (ItemsOf.nil _) fun s' acc' c' hm hS' hacc => ?_
    rw [Moved.eq_with hm]
    refine fin s'.heap s'.toks acc' c' (fun b o hb e => hm.heap b o (fun z => ?_) (hk b o hb e)) hS' hacc
    rcases List.mem_cons.mp z with e' | z
    · exact hb e'
    · exact absurd (Heap.lt_size e) (by rw [List.mem_singleton.mp z]; exact Nat.lt_irrefl _)
  unfold Builtin.List.listExtendWith
  refine wpAny_bind (wpAny_typeOf (dictTypeIs hob hex) ?_)
  have h1 : Builtin.List.listSameRef (.ref S) (.ref dd) = false := by simp [Builtin.List.listSameRef, hne]
  simp only [h1, show (Value.type "dict" == Value.type "list") = false by decide, show (Value.type "dict" == Value.type "tuple") = false by decide, Bool.or_false, Bool.false_eq_true, if_false]
  refine wpAny_bind (keysOf_start hsys hob hex hdt ?_)
  refine wpAny_bind (wpAny_holding (hintOf (Heap.get?_push_of_some _ hob) hex ?_))
  have hit₁ : (s.heap.push { cls := .type "dict_keyiterator", data := .fields #[.ref dd, .int 0 0, .int ens.size 0, .int tick 0] }).IsKeyIter s.heap.objs.size dd 0 ens.size tick := ⟨_, Heap.get?_push_size _ rfl, rfl, rfl⟩
  have hS₁ := Heap.get?_push_of_some { cls := .type "dict_keyiterator", data := .fields #[.ref dd, .int 0 0, .int ens.size 0, .int tick 0] } hS
  refine wpAny_ite_split (fun _ => ?_) (fun _ => wpAny_pure ⟨plainId_quiet F.plain_extend_loop _, loop _ c₀ _ hit₁ (Heap.get?_push_of_some _ hob) (fun b o _ e => Heap.get?_push_of_some _ e) hS₁⟩)
  refine wpAny_bind (wpAny_rule (wpAny_bind ?_))
  show wpAny _ _ (updateSeq S (·.push .none) >>= fun _ => updateSeq S (·.pop)) _ _ _
  refine wpAny_bind (wpAny_updateSeq hS₁ rfl ?_)
  have hS₂ := Heap.get?_update_self (Obj.mapSeq (·.push Value.none)) hS₁ rfl
  refine wpAny_updateSeq (hz := by seq_fits) hS₂ rfl ?_
  have hS₃ := Heap.get?_update_self (Obj.mapSeq (·.pop)) hS₂ rfl
  have oth : ∀ b o, b ≠ S → (s.heap.push { cls := .type "dict_keyiterator", data := .fields #[.ref dd, .int 0 0, .int ens.size 0, .int tick 0] }).get? b = some o → (((s.heap.push { cls := .type "dict_keyiterator", data := .fields #[.ref dd, .int 0 0, .int ens.size 0, .int tick 0] }).update S (Obj.mapSeq (·.push Value.none))).update S (Obj.mapSeq (·.pop))).get? b = some o :=
    fun b o hb e => (Heap.get?_update_other _ _ (Ne.symm hb)).trans ((Heap.get?_update_other _ _ (Ne.symm hb)).trans e)
  exact wpAny_pure ⟨plainId_quiet F.plain_extend_loop _, loop _ _ _ (hit₁.at fun o e => oth _ o (Ne.symm hSI) e) (oth _ _ (Ne.symm hne) (Heap.get?_push_of_some _ hob)) (fun b o hb e => oth b o hb (Heap.get?_push_of_some _ e)) hS₃⟩
theorem initKeys {R : Result → Shared → Prop} {S : Addr} (calm : A.handled = none) (hsys : (dd == sysModules) = false) (hob : s.heap.get? dd = some ob) (hex : ob.ExactDict) (hdt : ob.data = .dict ens tick) (few : ens.size ≤ sizeLine) (hne : S ≠ dd) (hS : s.heap.get? S = some { cls := .type "list", data := .seq #[] })
    (fin : ∀ h2 tk acc c2, (∀ b o, b ≠ S → s.heap.get? b = some o → h2.get? b = some o) → h2.get? S = some { cls := .type "list", dict := none, data := .seq acc c2, slots := #[] } → ItemsOf (fun i v => ∃ e, ens[i]? = some e ∧ v = e.key) acc ens.size → R (.ok (.ret .none)) { s with heap := h2, toks := tk }) :
    wpAny (model prog w) A.in1 (Builtin.«list.__init__» ⟨[.ref S, .ref dd], []⟩) (fun f s' => match f with | .done f => R (.ok f) s' | .again c' => c'.quiet = true ∧ codeAny (model prog w) A c' R s') (fun e s' => R (.error e) s') s := by
  show wpAny _ _ (Builtin.List.listItems (.ref S) >>= fun old => Builtin.List.listUpdate (.ref S) (fun _ => #[]) >>= fun _ => letGo old.toList.reverse >>= fun _ => Builtin.List.listExtendWith (.ref S) (.ref dd) .none) _ _ s
  unfold Builtin.List.listItems
  refine wpAny_bind (wpAny_bind (wpAny_seqItems hS rfl (wpAny_pure ?_)))
  show wpAny _ _ (updateSeq S (fun _ => #[]) >>= fun _ => letGo (#[] : Array Value).toList.reverse >>= fun _ => Builtin.List.listExtendWith (.ref S) (.ref dd) .none) _ _ s
  have hS₂ := Heap.get?_update_self (Obj.mapSeq (fun _ => (#[] : Array Value))) hS rfl
  have oth : ∀ b o, b ≠ S → s.heap.get? b = some o → (s.heap.update S (Obj.mapSeq (fun _ => (#[] : Array Value)))).get? b = some o := fun b o hb e => (Heap.get?_update_other _ _ (Ne.symm hb)).trans e
  refine wpAny_bind (wpAny_updateSeq hS rfl (wpAny_bind (wpAny_letGo ?_)))
  exact extendKeys calm hsys (oth dd _ (Ne.symm hne) hob) hex hdt few hne hS₂ fun h2 tk acc c2 hk hS' hacc => fin h2 tk acc c2 (fun b o hb e => hk b o hb (oth b o hb e)) hS' hacc
theorem listKeys {Q : Value → Shared → Prop} (calm : A.handled = none) (hsys : (dd == sysModules) = false) (hob : s.heap.get? dd = some ob) (hex : ob.ExactDict) (hdt : ob.data = .dict ens tick) (few : ens.size ≤ sizeLine)
    (fin : ∀ h2 tk acc c2, (∀ b o, s.heap.get? b = some o → h2.get? b = some o) → h2.get? s.heap.objs.size = some { cls := .type "list", dict := none, data := .seq acc c2, slots := #[] } → ItemsOf (fun i v => ∃ e, ens[i]? = some e ∧ v = e.key) acc ens.size → Q (.ref s.heap.objs.size) { s with heap := h2, toks := tk }) :
    wpAny (model prog w) A (call (.type "list") [.ref dd]) Q E s := by
  refine callType_codes (Q₁ := fun obj s₁ => obj = .ref s.heap.objs.size ∧ s₁ = { s with heap := s.heap.push { cls := .type "list", data := .seq #[] } }) F.called_list (F.typeCall_list_1 _) F.entry_list_init (code_list_new _ ⟨rfl, rfl⟩) fun obj s₁ h₁ => ?_
  obtain ⟨rfl, rfl⟩ := h₁
  have hS : (s.heap.push { cls := .type "list", data := .seq #[] }).get? s.heap.objs.size = some { cls := .type "list", data := .seq #[] } := Heap.get?_push_size _ rfl
  refine ⟨⟨_, hS, rfl⟩, F.args_list_init_2 _ _, initKeys (A := A.in1) calm hsys (Heap.get?_push_of_some _ hob) hex hdt few (Ne.symm (Nat.ne_of_lt (Heap.lt_size hob))) hS fun h2 tk acc c2 hk hS' hacc => ?_⟩
  exact ⟨rfl, fin h2 tk acc c2 (fun b o e => hk b o (Nat.ne_of_lt (Heap.lt_size e)) (Heap.get?_push_of_some _ e)) hS' hacc⟩
end
end PySem
namespace L2
open PySem PySem.Spec PyProof.Rows
section
variable {X : Cx}
def refV : Value → V
  | .ref b => .ref b
  | _ => .non
theorem Inv.keys {pins : List (Addr × Obj)} {σ : St} {H : Hp} {s : Shared} {a : Addr} {kvs : List (List Key × V)} {ep : Nat} (I : Inv X pins σ H s) (e : H a = some (.dE kvs ep)) : kvs.length ≤ sizeLine ∧ (a == sysModules) = false ∧ ∃ (o : Obj) (es : Array DictEntry), s.heap.get? a = some o ∧ o.ExactDict ∧ o.data = .dict es ep ∧ es.size = kvs.length ∧
    ∀ (i : Nat) k y, kvs[i]? = some (k, y) → ∃ b x, es[i]? = some x ∧ x.key = .ref b ∧ H b = some (.tup (k.map kV)) := by
  obtain ⟨z, hd, xs, rel, _, o, es, ho, hx, hdat, he⟩ := de_of I.hok e
  have hl : kvs.length = xs.length := Paired.length rel
  have hs : es.size = kvs.length := by
    have := congrArg List.length he
    rw [List.length_map, Array.length_toList] at this
    rw [this, hl]
  refine ⟨z, hd, o, es, ho, hx, hdat, hs, fun i k y hk => ?_⟩
  have hi : i < kvs.length := (List.getElem?_eq_some_iff.mp hk).1
  have hix : i < xs.length := by rw [← hl]; exact hi
  have hi' : i < es.size := by rw [hs]; exact hi
  have q := PL.paired_get i rel hk (List.getElem?_eq_getElem hix)
  refine ⟨xs[i].2.1, es[i], Array.getElem?_eq_getElem hi', ?_, q.2.1⟩
  have e1 : es.toList[i]? = (xs.map (entryOfKey (tupleKind (mixKind X.prog X.w))))[i]? := by rw [he]
  rw [List.getElem?_map, List.getElem?_eq_getElem hix, Array.getElem?_toList, Array.getElem?_eq_getElem hi'] at e1
  rw [Option.some.inj e1]
  rfl
theorem call_lenE : CallR X (.builtin "len") (fun xs H Q => ∃ a kvs ep, xs = [.ref a] ∧ H a = some (.dE kvs ep) ∧ Q (.int kvs.length) H) := by
  intro pins s σ H xs us Q I r h
  obtain ⟨a, kvs, ep, rfl, e, q⟩ := h
  obtain ⟨u, rfl, rx⟩ := vals1 r
  cases rx
  obtain ⟨z, hd, o, es, ho, hx, hdat, hs, _⟩ := I.keys e
  refine lenOf hd ho hx hdat (by rw [hs]; exact z) ?_
  rw [hs]
  exact ⟨.int kvs.length, H, I.tok _, ⟨_, rfl⟩, q⟩
/-- list(d): the addresses of the keys are among the tuples -/
theorem call_listE (hc : X.calm = true) : CallR X (.type "list") (fun xs H Q => ∃ a kvs ep, xs = [.ref a] ∧ H a = some (.dE kvs ep) ∧ ∀ l ys, H l = none → ys.length = kvs.length → (∀ (i : Nat) k y, kvs[i]? = some (k, y) → ∃ b, ys[i]? = some (.ref b) ∧ H b = some (.tup (k.map kV))) → Q (.ref l) (upd H l (.lst ys))) := by
  intro pins s σ H xs us Q I r h
  obtain ⟨a, kvs, ep, rfl, e, q⟩ := h
  obtain ⟨u, rfl, rx⟩ := vals1 r
  cases rx
  obtain ⟨z, hd, o, es, ho, hx, hdat, hs, hk⟩ := I.keys e
  refine listKeys (I.ok.hd hc) hd ho hx hdat (by rw [hs]; exact z) fun h2 tk acc c2 kp e2 hit => ?_
  obtain ⟨hsz, hit⟩ := hit
  have each : ∀ (j : Nat) v, acc[j]? = some v → ∃ b k y, v = .ref b ∧ kvs[j]? = some (k, y) ∧ H b = some (.tup (k.map kV)) := fun j v hj => by
    obtain ⟨x, hx1, rfl⟩ := hit j v hj
    have hjl : j < kvs.length := by
      rw [← hs]
      exact (Array.getElem?_eq_some_iff.mp hx1).1
    obtain ⟨b, x', hx2, hb, ht⟩ := hk j kvs[j].1 kvs[j].2 (List.getElem?_eq_getElem hjl)
    rw [hx1] at hx2
    cases hx2
    exact ⟨b, kvs[j].1, kvs[j].2, hb, List.getElem?_eq_getElem hjl, ht⟩
  have hys : Vals (acc.toList.map refV) acc.toList := by
    refine PL.paired_of (by rw [List.length_map]) fun j x v h1 h2 => ?_
    rw [List.getElem?_map, h2] at h1
    obtain ⟨b, _, _, rfl, _⟩ := each j v (by rw [← Array.getElem?_toList]; exact h2)
    cases h1
    exact rfl
  have hl : (acc.toList.map refV).length = kvs.length := by rw [List.length_map, Array.length_toList, hsz, hs]
  have I2 := I.laid (t' := tk) (o := .lst (acc.toList.map refV)) kp (Nat.le_refl _) (show ObjOk X.prog X.w _ h2 _ (.lst (acc.toList.map refV)) from ⟨by rw [hl]; exact z, acc.toList, c2, hys, by simpa using e2⟩)
  refine ⟨.ref s.heap.objs.size, _, I2, rfl, q _ _ (I.hok.fresh (Nat.le_refl _)) hl fun i k y hi => ?_⟩
  have hil : i < acc.size := by rw [hsz, hs]; exact (List.getElem?_eq_some_iff.mp hi).1
  obtain ⟨b, k', y', hv, hk', ht⟩ := each i acc[i] (Array.getElem?_eq_getElem hil)
  rw [hi] at hk'
  cases hk'
  refine ⟨b, ?_, ht⟩
  rw [List.getElem?_map, Array.getElem?_toList, Array.getElem?_eq_getElem hil, hv]
  rfl
end
end L2
namespace PL
open PySem L2
section
variable {X : Cx}
/-! ### calls that make a new thing of their own -/
abbrev RCO' := List D → (OD → Prop) → Prop
def LiftCO (K : PySem.W.Frag) (r : List V → Hp → VK → Prop) (r' : RCO') : Prop := ∀ (Hi H : Hp) (vs : List V) (ds : List D) (Q : OD → Prop) (Q2 : VK), Fz Hi H → DenL K Hi vs ds → r' ds Q →
  (∀ Hi1 H1 p u o, Ext Hi H Hi1 H1 → H1 p = none → (∀ xs, u ≠ .tup xs) → OwnAt K Hi1 (upd H1 p u) p o → Q o → Q2 (.ref p) (upd H1 p u)) → r vs H Q2
structure CalO (X : Cx) (f : Value) (r' : RCO') : Prop where
  ex : ∃ r, CallR X f r ∧ LiftCO X.K r r'
theorem CalO.or {f : Value} {r r' : RCO'} (h : CalO X f r) (h' : CalO X f r') : CalO X f (fun x Q => r x Q ∨ r' x Q) := by
  obtain ⟨a, ha, la⟩ := h.ex
  obtain ⟨b, hb, lb⟩ := h'.ex
  refine ⟨_, ha.or hb, fun Hi H vs ds Q Q2 s d q fin => ?_⟩
  rcases q with q | q
  · exact .inl (la Hi H vs ds Q Q2 s d q fin)
  · exact .inr (lb Hi H vs ds Q Q2 s d q fin)
def tCBO' (r : RCO') (t : TA') : TO' := fun Γ Q => t Γ fun ds Γ1 => r ds fun o => Q o Γ1
theorem tCBO_of {K : PySem.W.Frag} {n : Nat} {r : List V → Hp → VK → Prop} {r' : RCO'} {t : TA'} {σ : St} {H : Hp} {Q : VK} (l : LiftCO K r r') (h : oOf K n (tCBO' r' t) σ H Q) : tCB r (taOf K n t) σ H Q := by
  obtain ⟨W, Hi, Γ, Q', g, h, fin⟩ := h
  refine ⟨W, Hi, Γ, _, g, h, ?_⟩
  intro vs H1 Hi1 Γ1 ds s1 g1 dl h1
  refine l Hi1 H1 vs ds _ _ g1.fz dl h1 ?_
  intro Hi2 H2 p u o e hp hu own q
  have g2 := g1.ext e
  exact fin p _ Hi2 Γ1 o (s1.trans e.hi) (g2.ext (Ext.newO g2.fz hp u hu)) (New.mk' g2 hp own) q
variable {x : Str} {p pos : Pos} {e : Expr} {es : List Expr} {t : TA'} {id T : String}
theorem po_callTy' {r' : RCO'} (hc : CalO X (.type T) r') (hm : X.mg x = none) (hv : bootBuiltins x = some (.type T)) (ha : PA' X (e :: es) t) (hg : Gl X x := by rfl) (hn : x ≠ "__name__" := by decide) (hdb : (x == ("__debug__" : Str)) = false := by decide) : PO' X (.Call (.Name x p) (e :: es) [] pos) (tCBO' r' t) := by
  obtain ⟨r, ho, l⟩ := hc.ex
  obtain ⟨p1, p2⟩ := plain_cons ha.pl
  exact ⟨PE.weak (pe_callTy ho hg hm hv ha.pa hn hdb (star_of p1) (plain_any p2)) fun σ H Q q => tCBO_of l q⟩
class MRCO (r : RCO') : Prop where
  mono : ∀ ds (Q Q' : OD → Prop), (∀ o, Q o → Q' o) → r ds Q → r ds Q'
instance {r : RCO'} {t : TA'} [MRCO r] [MA t] : MO (tCBO' r t) := ⟨fun Γ _ _ h q => MA.mono (t := t) _ _ _ (fun _ _ z => MRCO.mono (r := r) _ _ _ (fun _ w => h _ _ w) z) q⟩
/-- list(x) of a list, a tuple -/
def rListOf : RCO' := fun ds Q => ∃ d es, ds = [d] ∧ (d = .lst es ∨ d = .tup es) ∧ Q (.lst es)
theorem c_list : CalO X (.type "list") rListOf := ⟨_, call_list_of, by
  rintro Hi H vs ds Q Q2 s dl ⟨d, es, rfl, h, q⟩ fin
  obtain ⟨v, rfl, den⟩ := denL1 dl
  rcases h with rfl | rfl
  · obtain ⟨a, us, rfl, h1, h2⟩ := den.lstI
    exact ⟨a, us, rfl, .inl (sqL_mono s.sub h1), fun l hl => fin Hi H l _ (.lst es) (Ext.refl s) hl (fun _ z => by cases z) ⟨us, upd_same, h2⟩ q⟩
  · obtain ⟨a, us, rfl, h1, h2⟩ := den.tupI
    exact ⟨a, us, rfl, .inr (sqT_mono s.sub h1), fun l hl => fin Hi H l _ (.lst es) (Ext.refl s) hl (fun _ z => by cases z) ⟨us, upd_same, h2⟩ q⟩⟩
/-- list(x) of a dict with tuple keys -/
def rListOfT : RCO' := fun ds Q => ∃ es, ds = [.dit es] ∧ Q (.lst (es.map (·.1)))
theorem c_listT (hc : X.calm = true) : CalO X (.type "list") rListOfT := ⟨_, call_listE hc, by
  rintro Hi H vs ds Q Q2 s dl ⟨es, rfl, q⟩ fin
  obtain ⟨v, rfl, den⟩ := denL1 dl
  obtain ⟨a, kvs, ep, rfl, h1, h2⟩ := den.ditI
  refine ⟨a, kvs, ep, rfl, s.sub _ _ h1, fun l ys hl hy hk => fin Hi H l _ (.lst (es.map (·.1))) (Ext.refl s) hl (fun _ z => by cases z) ⟨ys, upd_same, ?_⟩ q⟩
  refine paired_of (by rw [hy, List.length_map, paired_len h2]) fun i v d e1 e2 => ?_
  rw [List.getElem?_map] at e2
  cases hc2 : es[i]? with
  | none => rw [hc2] at e2; cases e2
  | some q =>
    rw [hc2] at e2
    cases e2
    obtain ⟨p, ep, ep2⟩ := paired_right h2 hc2
    obtain ⟨b, eb, hb⟩ := hk i p.1 p.2 ep
    rw [e1] at eb
    cases eb
    show Den X.K Hi (.ref b) q.1
    rw [ep2.1]
    exact Den.mkT (s.tups _ _ hb) (kV_den _)⟩
def rLenT : RC' := fun ds Q => ∃ es, ds = [.dit es] ∧ Q (.int es.length)
theorem c_lenT : Cal X (.builtin "len") rLenT := ⟨_, call_lenE, by
  rintro Hi H vs ds Q Q2 s dl ⟨es, rfl, q⟩ fin
  obtain ⟨v, rfl, den⟩ := denL1 dl
  obtain ⟨a, kvs, ep, rfl, h1, h2⟩ := den.ditI
  refine ⟨a, kvs, ep, rfl, s.sub _ _ h1, ?_⟩
  rw [paired_len h2]
  exact fin Hi H _ _ (Ext.refl s) (.int _) q⟩
instance : MRCO rListOf := ⟨fun _ _ _ h ⟨d, es, a, b, q⟩ => ⟨d, es, a, b, h _ q⟩⟩
instance : MRCO rListOfT := ⟨fun _ _ _ h ⟨es, a, q⟩ => ⟨es, a, h _ q⟩⟩
instance : MRC rLenT := ⟨fun _ _ _ h ⟨es, a, q⟩ => ⟨es, a, h _ q⟩⟩
end
end PL

namespace PySem
section
variable {prog : Program} {w : World} {A : Around} {E : Value → Shared → Prop} {s : Shared} {S tt : Addr} {ob : Obj} {mine items : Array Value} {n c₀ : Nat} {T : String}
end
end PySem
namespace L2
open PySem PySem.Spec PyProof.Rows
section
variable {X : Cx}
end
end L2
namespace PL
open PySem L2
section
variable {X : Cx}
/-! ### operations that make a new thing of their own -/
abbrev R2O' := D → D → (OD → Prop) → Prop
def Lift2O (K : PySem.W.Frag) (r : R2) (r' : R2O') : Prop := ∀ (Hi H : Hp) (x y : V) (dx dy : D) (Q : OD → Prop) (Q2 : VK), Fz Hi H → Den K Hi x dx → Den K Hi y dy → r' dx dy Q →
  (∀ Hi1 H1 p u o, Ext Hi H Hi1 H1 → H1 p = none → (∀ xs, u ≠ .tup xs) → OwnAt K Hi1 (upd H1 p u) p o → Q o → Q2 (.ref p) (upd H1 p u)) → r x y H Q2
structure Op2O (X : Cx) (f : Value → Value → Sem Value) (r' : R2O') : Prop where
  ex : ∃ r, OpR X f r ∧ Lift2O X.K r r'
def tOpO' (r : R2O') (ta tb : TE') : TO' := fun Γ Q => ta Γ fun x Γ1 => tb Γ1 fun y Γ2 => r x y fun o => Q o Γ2
class MR2O (r : R2O') : Prop where
  mono : ∀ x y (Q Q' : OD → Prop), (∀ o, Q o → Q' o) → r x y Q → r x y Q'
instance {r : R2O'} {ta tb : TE'} [MR2O r] [ME ta] [ME tb] : MO (tOpO' r ta tb) := ⟨fun Γ _ _ h q => ME.mono (t := ta) _ _ _ (fun _ _ z => ME.mono (t := tb) _ _ _ (fun _ _ y => MR2O.mono (r := r) _ _ _ _ (fun _ w => h _ _ w) y) z) q⟩
def rAddL : R2O' := fun x y Q => ∃ xs ys, x = .lst xs ∧ y = .lst ys ∧ xs.length + ys.length ≤ sizeLine ∧ Q (.lst (xs ++ ys))
instance : MR2O rAddL := ⟨fun _ _ _ _ h ⟨xs, ys, a, b, c, q⟩ => ⟨xs, ys, a, b, c, h _ q⟩⟩
/-- x.extend(e), x a name's own list -/
def tExtend' (i : Nat) (te : TE') : TS' := fun N Γ => (∃ ds0, Γ[i]? = some (.own (.lst ds0))) ∧ te Γ fun d Γ1 => ∃ ds es, Γ1[i]? = some (.own (.lst ds)) ∧ (d = .lst es ∨ d = .tup es) ∧ ds.length + es.length ≤ sizeLine ∧ N.nx (Γ1.set i (.own (.lst (ds ++ es))))
instance {i : Nat} {te : TE'} [ME te] : MS (tExtend' i te) := ⟨fun N N' Γ h ⟨a, q⟩ => ⟨a, ME.mono (t := te) _ _ _ (fun _ _ ⟨ds, es, e, b, l, z⟩ => ⟨ds, es, e, b, l, h.nx _ z⟩) q⟩⟩
end
end PL

namespace L2
open PySem PySem.Spec PyProof.Rows
/-! ### isinstance, of any kind of thing and any class -/
/-- what a class must have for isinstance of its objects -/
structure InsT (K : PySem.W.Frag) (C : Addr) : Prop where
  cl : Cls K C
  ha : PySem.W.findIn K (.ref C) "__class__" = some (some (.builtin "object.__class__"))
  hn : PySem.W.specialIn K (.builtin "object.__class__") "__get__" = some (some (.builtin "getset_descriptor.__get__"))
  htk : PySem.W.takesIn K (.builtin "object.__class__") = some true
  hm : PySem.W.mroIn K C (.type "object") = some true
/-- the type of a thing -/
def TyA (K : PySem.W.Frag) (H : Hp) (x : V) (t : Value) : Prop := (∃ n, t = .type n ∧ KindV K H x n) ∨ ∃ a C dx fs, x = .ref a ∧ H a = some (.ins C dx fs) ∧ t = .ref C ∧ InsT K C
def clsV : V → Option Value
  | .ty n => some (.type n)
  | .ref C => some (.ref C)
  | _ => none
theorem clsV_rel {c : V} {u v : Value} (r : RelV c u) (h : clsV c = some v) : u = v := by
  cases c with
  | ty n => cases h; exact r
  | ref C => cases h; exact r
  | _ => cases h
theorem kit_own {K : PySem.W.Frag} {C D' : Addr} {b : Bool} (hd : PySem.W.hasDictIn K D' = true) (ht : PySem.W.typeIn K (.ref D') = some (.type "type")) (hm : PySem.W.mroIn K C (.ref D') = some b) (hne : b = true ∨ (Value.ref C == Value.ref D') = false) : PySem.W.kitOne K (.ref C) (.ref D') = some b := by
  have hc : (PySem.W.clsIn K D').isSome = true := by
    obtain ⟨cd, e, _⟩ := PySem.W.any_some hd
    rw [e]
    rfl
  have hk : PySem.W.kitCls K (.ref C) (.ref D') = some b := by
    show (if ((PySem.W.clsIn K D').isSome && PySem.W.typeIn K (.ref D') == some (.type "type")) = true then PySem.W.subIn K (.ref C) (.ref D') else none) = some b
    rw [hc, ht, if_pos (by simp)]
    exact hm
  unfold PySem.W.kitOne
  by_cases e : (Value.ref C == Value.ref D') = true
  · rw [if_pos e]
    rcases hne with h | h
    · rw [h]
    · rw [h] at e
      cases e
  · rw [if_neg e]
    exact hk
section
variable {X : Cx}
theorem tyA_kit {pins : List (Addr × Obj)} {σ : St} {H : Hp} {s : Shared} {x : V} {u t : Value} (I : Inv X pins σ H s) (r1 : RelV x u) (ty : TyA X.K H x t) : ∃ Hh, PySem.W.KitX X.K u t Hh ∧ Hh s.heap ∧ u ≠ .builtin "__main__.__loader__#opaque" := by
  rcases ty with ⟨n, rfl, ty⟩ | ⟨a, C, dx, fs, rfl, ea, rfl, T⟩
  · cases x with
    | non => cases (show n = _ from ty); cases (show u = Value.none from r1); exact ⟨_, PySem.W.kitx_none, True.intro, fun z => nomatch z⟩
    | bl y => cases (show n = _ from ty); cases (show u = Value.bool y from r1); exact ⟨_, PySem.W.kitx_bool, True.intro, fun z => nomatch z⟩
    | int i => cases (show n = _ from ty); obtain ⟨tk, z⟩ := (show ∃ t, u = Value.int i t from r1); cases z; exact ⟨_, PySem.W.kitx_int, True.intro, fun z => nomatch z⟩
    | str y => cases (show n = _ from ty); obtain ⟨tk, z⟩ := (show ∃ t, u = Value.str y t from r1); cases z; exact ⟨_, PySem.W.kitx_str, True.intro, fun z => nomatch z⟩
    | ref a =>
      cases (show u = Value.ref a from r1)
      rcases ty with ⟨rfl, xs, hq⟩ | ⟨rfl, xs, hq⟩ | ⟨rfl, hq⟩
      · obtain ⟨its, _, p, _⟩ := I.list hq
        obtain ⟨o, n, e1, c1, _⟩ := p
        exact ⟨_, PySem.W.kitx_list, ⟨o, e1, c1⟩, fun z => nomatch z⟩
      · obtain ⟨its, _, p, _⟩ := I.tuple hq
        obtain ⟨o, h1, h2, _⟩ := p
        exact ⟨_, PySem.W.kitx_tuple, ⟨o, h1, h2⟩, fun z => nomatch z⟩
      · have z : ∃ o, s.heap.get? a = some o ∧ o.ExactDict := by
          rcases hq with ⟨kvs, hq⟩ | ⟨kvs, hq⟩
          · obtain ⟨_, _, _, _, o, _, _, e, ex, _⟩ := hq.ok I.hok
            exact ⟨o, e, ex⟩
          · obtain ⟨_, _, _, _, o, _, _, e, ex, _⟩ := hq.ok I.hok
            exact ⟨o, e, ex⟩
        obtain ⟨o, h1, h2⟩ := z
        exact ⟨_, PySem.W.kitx_dict, ⟨o, h1, h2.1⟩, fun z => nomatch z⟩
    | _ => exact False.elim ty
  · cases (show u = Value.ref a from r1)
    obtain ⟨mA, O, _⟩ := ins_get I.hok ea
    obtain ⟨od, J, _⟩ := O.look
    exact ⟨_, PySem.W.kitx_own (T.cl.get _) T.cl.hd T.ha T.hn T.htk T.hm, J, fun z => nomatch z⟩
theorem call_isiA : CallR X (.builtin "isinstance") (fun xs H Q => ∃ x t cv c b, xs = [x, cv] ∧ clsV cv = some c ∧ TyA X.K H x t ∧ PySem.W.kitOne X.K t c = some b ∧ Q (.bl b) H) := by
  intro pins s σ H xs us Q I r h
  obtain ⟨x, t, cv, c, b, rfl, hc, ty, e, q⟩ := h
  obtain ⟨u, w', rfl, r1, r2⟩ := vals2 r
  cases clsV_rel r2 hc
  obtain ⟨Hh, kx, hp, ne⟩ := tyA_kit I r1 ty
  exact PySem.W.kia_one kx I.kIn hp e ne fun tk => ⟨.bl b, H, I.tok _, rfl, q⟩
/-! ### __init__ that stores its parameters -/
theorem putF_new {f : Str} {v : V} : ∀ {l : List (Str × V)}, f ∉ l.map (·.1) → putF f v l = l ++ [(f, v)]
  | [], _ => rfl
  | (g, x) :: r, h => by
    rw [List.map_cons, List.mem_cons, not_or] at h
    show (if g = f then _ else (g, x) :: putF f v r) = _
    rw [if_neg (fun z => h.1 z.symm), putF_new h.2]
    rfl
/-- the promise of an __init__ that stores what it is given in the fields fs -/
def spInit (C : Addr) (fs : List Str) : Sp := fun vs H Q _ => ∃ a dx us, vs = .ref a :: us ∧ us.length = fs.length ∧ H a = some (.ins C dx []) ∧ Q .non (upd H a (.ins C dx (fs.zip us)))
end
end L2
namespace PL
open PySem L2
section
variable {X : Cx} {pos : Pos}
theorem DenF.look {K : PySem.W.Frag} {H : Hp} {f : Str} {d : D} : ∀ {fs : List (Str × V)} {ds : List (Str × D)}, DenF K H fs ds → ds.lookup f = some d → ∃ v, fs.lookup f = some v ∧ Den K H v d
  | _, _, .nil, h => by simp at h
  | p :: fs, q :: ds, .cons r t, h => by
    obtain ⟨p1, p2⟩ := p
    obtain ⟨q1, q2⟩ := q
    obtain ⟨r1, r2⟩ := r
    dsimp only at r1 r2
    subst r1
    by_cases e : f = q1
    · have hb : (f == q1) = true := beq_iff_eq.mpr e
      simp only [List.lookup, hb] at h ⊢
      cases h
      exact ⟨_, rfl, r2⟩
    · have hb : (f == q1) = false := beq_eq_false_iff_ne.mpr e
      simp only [List.lookup, hb] at h ⊢
      exact DenF.look t h
theorem zip_den {K : PySem.W.Frag} {H : Hp} : ∀ (fs : List Str) {vs : List V} {ds : List D}, DenL K H vs ds → DenF K H (fs.zip vs) (fs.zip ds)
  | [], _, _, _ => .nil
  | f :: fs, _, _, .nil => by simp only [List.zip_nil_right]; exact .nil
  | f :: fs, _, _, .cons r t => .cons ⟨rfl, r⟩ (zip_den fs t)
/-! ### fields -/
def tFld' (K : PySem.W.Frag) (t : TE') (f : Str) : TE' := fun Γ Q => t Γ fun d Γ1 => ∃ C fs v, d = .obj C fs ∧ Cls K C ∧ NoAttr K C f ∧ fs.lookup f = some v ∧ Q v Γ1
theorem pe_fld' {e : Expr} {t : TE'} {f : Str} (he : PE' X e t) (hb : attributeBase e f X.env (eval e X.env) = eval e X.env := by rfl) : PE' X (.Attribute e f pos) (tFld' X.K t f) := by
  refine ⟨PE.weak (pe_fld he.h hb) ?_⟩
  rintro σ H Q ⟨W, Hi, Γ, Q', g, h, fin⟩
  refine ⟨W, Hi, Γ, _, g, h, ?_⟩
  rintro x H1 ⟨Hi1, d, Γ1, s1, g1, den1, C, fs, v, rfl, cl, na, lk, q⟩
  obtain ⟨a, dx, fvs, rfl, ha, df⟩ := den1.objI
  obtain ⟨u, hu, du⟩ := df.look lk
  exact ⟨a, C, dx, fvs, u, rfl, g1.sub _ _ ha, cl, na, hu, fin u H1 ⟨Hi1, v, Γ1, s1, g1, du, q⟩⟩
instance {K : PySem.W.Frag} {t : TE'} {f : Str} [ME t] : ME (tFld' K t f) := ⟨fun Γ _ _ h q => ME.mono (t := t) Γ _ _ (fun _ _ ⟨C, fs, v, a, b, c, d, z⟩ => ⟨C, fs, v, a, b, c, d, h _ _ z⟩) q⟩
/-- a class as a value -/
theorem pe_cls' {x : Str} {C : Addr} (hm : X.mg x = some (.ref C)) (hg : Gl X x := by rfl) (hd : (x == ("__debug__" : Str)) = false := by decide) : PE' X (.Name x pos) (tC' (.cls C)) := pe_g' (v := .ref C) hm rfl (fun _ => .cls C) hg hd
/-! ### isinstance -/
def clsD : D → Option Value
  | .ty n => some (.type n)
  | .cls C => some (.ref C)
  | _ => none
theorem clsD_ok {K : PySem.W.Frag} {H : Hp} {v : V} {d : D} {c : Value} (h : Den K H v d) (e : clsD d = some c) : clsV v = some c := by
  cases h with
  | ty n => exact e
  | cls C => exact e
  | _ => cases e
/-- the type of a datum -/
def TyD (K : PySem.W.Frag) (d : D) (t : Value) : Prop := (∃ n, t = .type n ∧ kindD d = some n) ∨ ∃ C fs, d = .obj C fs ∧ t = .ref C ∧ InsT K C
theorem TyD.ok {K : PySem.W.Frag} {Hi H : Hp} {x : V} {d : D} {t : Value} (s : Same Hi H) (den : Den K Hi x d) (h : TyD K d t) : TyA K H x t := by
  rcases h with ⟨n, rfl, h⟩ | ⟨C, fs, rfl, rfl, T⟩
  · exact .inl ⟨n, rfl, kindD_ok s den h⟩
  · obtain ⟨a, dx, fvs, rfl, ha, _⟩ := den.objI
    exact .inr ⟨a, C, dx, fvs, rfl, s _ _ ha, rfl, T⟩
def rIsiA (K : PySem.W.Frag) : RC' := fun ds Q => ∃ d t cd c b, ds = [d, cd] ∧ clsD cd = some c ∧ TyD K d t ∧ PySem.W.kitOne K t c = some b ∧ Q (.bl b)
theorem c_isiA : Cal X (.builtin "isinstance") (rIsiA X.K) := ⟨_, call_isiA, by
  rintro Hi H vs ds Q Q2 s dl ⟨d, t, cd, c, b, rfl, hc, ty, e, q⟩ fin
  obtain ⟨v, w, rfl, d1, d2⟩ := denL2 dl
  exact ⟨v, t, w, c, b, rfl, clsD_ok d2 hc, ty.ok s.sub d1, e, fin Hi H _ _ (Ext.refl s) (.bl _) q⟩⟩
def rIsiT (K : PySem.W.Frag) : RC' := fun ds Q => ∃ d t cds cs b, ds = [d, .tup cds] ∧ cds.map clsD = cs.map some ∧ TyD K d t ∧ PySem.W.kitAny K t cs = some b ∧ Q (.bl b)
instance {K : PySem.W.Frag} : MRC (rIsiA K) := ⟨fun _ _ _ h ⟨d, t, cd, c, b, x, y, z, w, q⟩ => ⟨d, t, cd, c, b, x, y, z, w, h _ q⟩⟩
instance {K : PySem.W.Frag} : MRC (rIsiT K) := ⟨fun _ _ _ h ⟨d, t, cd, c, b, x, y, z, w, q⟩ => ⟨d, t, cd, c, b, x, y, z, w, h _ q⟩⟩
/-! ### making an object whose __init__ stores its parameters -/
structure Mak (P : Program) (w : World) (K : PySem.W.Frag) (mg : Str → Option Value) (base : Heap) (k : Nat) (x : Str) (C : Addr) (fs : List Str) : Prop where
  ex : ∃ f fd ps, Mk K C f ∧ FnOk P w K mg base CX0 k f fd ps (spInit C fs) ∧ Binds K fd ps [] ∧ mg x = some (.ref C)
def tMake' (C : Addr) (fs : List Str) (t : TA') : TE' := fun Γ Q => t Γ fun ds Γ1 => ds.length = fs.length ∧ Q (.obj C (fs.zip ds)) Γ1
theorem pe_make' {k : Nat} {x : Str} {C : Addr} {fs : List Str} {p : Pos} {e : Expr} {es : List Expr} {t : TA'} (M : Mak X.prog X.w X.K X.mg X.base k x C fs) (hr : Room (k + 1) X.A) (ha : PA' X (e :: es) t) (hg : Gl X x := by rfl) (hdb : (x == ("__debug__" : Str)) = false := by decide) :
    PE' X (.Call (.Name x p) (e :: es) [] pos) (tMake' C fs t) := by
  obtain ⟨f, fd, ps, mk, F, b, hm⟩ := M.ex
  refine ⟨PE.weak (pe_make (E := E0) (dvs := []) mk F hr hg hm b .nil pass0 ha.pa hdb (star_of (plain_cons ha.pl).1) (plain_any (plain_cons ha.pl).2)) ?_⟩
  rintro σ H Q ⟨W, Hi, Γ, Q', g, h, fin⟩
  refine ⟨W, Hi, Γ, _, g, h, ?_⟩
  rintro vs H1 Hi1 Γ1 ds s1 g1 dl ⟨hl, q⟩
  intro a dx hna hdx ne
  rw [List.append_nil]
  refine ⟨a, dx, vs, rfl, by rw [paired_len dl]; exact hl, upd_same, rfl, ?_⟩
  rw [upd_upd]
  have e1 := Ext.newO g1.fz hdx (.own a) (fun _ z => by cases z)
  have hna' : upd H1 dx (.own a) a = none := by rw [upd_ne (fun z => ne z.symm)]; exact hna
  have e2 := Ext.new e1.fz hna' (.ins C dx (fs.zip vs))
  have e3 := e1.trans e2
  exact fin _ _ ⟨_, _, Γ1, s1.trans e3.hi, g1.ext e3, Den.mkO upd_same ((zip_den fs dl).mono e3.hi), q⟩
instance {C : Addr} {fs : List Str} {t : TA'} [MA t] : ME (tMake' C fs t) := ⟨fun Γ _ _ h q => MA.mono (t := t) Γ _ _ (fun _ _ ⟨a, z⟩ => ⟨a, h _ _ z⟩) q⟩
end
end PL

namespace L2
open PySem PySem.Spec PyProof.Rows
/-! ### d.get(k, x), the epoch known -/
section
variable {X : Cx} {pins : List (Addr × Obj)} {σ : St} {H : Hp} {s : Shared} {a : Addr} {y d : V} {u r : Value} {o : Option V} {A : Around} {E : Value → Shared → Prop}
theorem e_get2 {Q : Value → Shared → Prop} (hu : A.units + 1 < cLine) (I : Inv X pins σ H s) (g : EGet H a y o) (ry : RelV y u) (rd : RelV d r) (h : ∀ w' s', Inv X pins σ H s' → RelV (o.getD d) w' → Q w' s') :
    wpAny (model X.prog X.w) A (call (.builtin "dict.get") [.ref a, u, r]) Q E s := by
  obtain ⟨kvs, ep, k, b, e, ey, eb, l⟩ := g
  subst ey
  cases (show u = Value.ref b from ry)
  obtain ⟨z, hd, xs, rel, dd, _⟩ := de_of I.hok e
  refine call_meetsIn PySem.F.slot_dict_get dd.typeIs PySem.F.entry_dict_get (PySem.F.args_dict_get_3 _ _ _) (meetsH_dict_get_default (tupleKind (mixKind X.prog X.w)) a b hd r) ⟨tupleKind_room_in1 hu, k, xs, key_of I.hok eb, dd, h _ _ (I.tok _) ?_⟩
  rw [l]
  exact (rel.val k).getD rd
theorem isE_at (I : Inv X pins σ H s) {kvs : List (List Key × V)} {ep : Nat} (e : H a = some (.dE kvs ep)) :
    s.TypeIs (.ref a) "dict" ∧ (∀ b, Value.ref a = .ref b → ∃ ob, s.heap.get? b = some ob ∧ ob.dict = none) := by
  obtain ⟨_, hd, xs, _, dd, _⟩ := de_of I.hok e
  refine ⟨dd.typeIs, fun b q => ?_⟩
  cases q
  obtain ⟨ob, _, _, h1, h2, _⟩ := dd
  exact ⟨ob, h1, h2.2.1⟩
end
def tEGet2 (td ty tx : TE) : TE := fun σ H Q => td σ H fun x H1 => ∃ a kvs ep, x = .ref a ∧ H1 a = some (.dE kvs ep) ∧ ty σ H1 fun y H2 => tx σ H2 fun z H3 => ∃ o, EGet H3 a y o ∧ Q (o.getD z) H3
section
variable {X : Cx} {o e f : Expr} {apos cpos : Pos} {td ty tx : TE}
theorem pe_eget2 (hu : X.A.units + 1 < cLine) (ho : PE X o td) (he : PE X e ty) (hf : PE X f tx) (m : M2 X o "get" apos e f cpos) : PE X (.Call (.Attribute o "get" apos) [e, f] [] cpos) (tEGet2 td ty tx) := by
  intro pins s σ H Q I h
  refine wpAny_Call_method m.base m.few m.line PySem.F.plainAttrs_dict PySem.F.slot_dict_get PySem.F.type_dict_get (thn (ho pins s σ H _ I h) fun u s1 ⟨x, H1, I1, rx, a, kvs, ep, ex, d, q1⟩ => ?_)
  subst ex
  obtain rfl : u = Value.ref a := rx
  obtain ⟨t1, t2⟩ := isE_at I1 d
  refine ⟨t1, t2, ?_⟩
  rw [m.trees]
  refine Calls.callWith_builtin rfl (Calls.evalArgs_plain (Calls.spliced_cons (thn (he pins s1 σ H1 _ I1 q1) fun iv s2 ⟨y, H2, I2, ry, q2⟩ =>
    Calls.spliced_cons (thn (hf pins s2 σ H2 _ I2 q2) fun fv s3 ⟨z, H3, I3, rz, ov, g, q3⟩ => Calls.spliced_nil ?_))))
  exact e_get2 hu I3 g ry rz fun w' s4 I4 rw' => ⟨_, H3, I4, rw', q3⟩
end
/-! ### range with a step -/
theorem small_step {a b c : Int} (ha : -(2 ^ 60) ≤ a) (ha' : a < 2 ^ 60) (hb : -(2 ^ 60) ≤ b) (hb' : b < 2 ^ 60) (hc : -(2 ^ 30) < c) (hc' : c < 2 ^ 30) : Builtin.Range.small a b c = true := by
  have h1 := PyProof.Rows.rangeSize_toNat a b c
  have h2 := PyProof.Rows.rangeSize_toNat_le a b c
  unfold Builtin.Range.small
  simp only [Builtin.Range.rangeFitsLong, Bool.and_eq_true, Bool.or_eq_true, decide_eq_true_eq, beq_iff_eq]
  refine ⟨⟨⟨⟨by omega, by omega⟩, by omega⟩, by omega⟩, .inr ?_⟩
  split <;> (simp [Builtin.Range.rangeFitsLong]; omega)
def Itr3 (lo c : Int) (n : Nat) : It := ⟨fun i _ => i < n, fun i H x H' => H' = H ∧ x = .int (lo + (i : Nat) * c), fun i _ => n ≤ i⟩
theorem turn_range3 {P : Program} {w : World} {K : PySem.W.Frag} {tg : Expr} (it : Addr) (lo c : Int) (n : Nat) : Turn P w K tg (Itr3 lo c n) [it] it (fun i h => IsRangeIter h it (lo + (i : Nat) * c) ((n : Int) - (i : Nat)) c) where
  mem := by simp
  obj := fun i h st b hb => by
    have e : b = it := by simpa using hb
    subst e
    exact ⟨_, st, fun v z => by
      have z' : Data.fields _ = Data.cell v := z
      cases z'⟩
  keep := fun i h h' st k => k it (by simp) _ st
  item := by
    intro X hP hw hK hc i pins s σ H E I hf st hg
    subst hP hw hK
    obtain ⟨f0, f1, f2, f3, f4, f5⟩ := hf it (by simp)
    have W := Walks.range (prog := X.prog) (w := X.w) (I.ok.hd hc) it lo c n
    refine W.item i s _ _ hg st fun v h' tk hv st' kk => ?_
    obtain ⟨t, rfl⟩ := hv
    have I1 : Inv X pins σ H { s with heap := h', toks := tk } := I.turned (fun b o hb e => kk b o (by simpa using hb) e) f0 f1 f3 f4 f5
    exact ⟨_, rfl, go_of (s := { s with heap := h', toks := tk }) (n := "range_iterator") st' rfl rfl (by decide) ⟨.int (lo + (i : Nat) * c), H, I1, ⟨t, rfl⟩, ⟨rfl, rfl⟩, st', fun b hb => (hf b hb).1⟩⟩
  done := by
    intro X hP hw hK hc i pins s σ H E I hf st hg
    subst hP hw hK
    obtain ⟨f0, f1, f2, f3, f4, f5⟩ := hf it (by simp)
    exact wpAny_pyNext_range_end (I.ok.hd hc) st (by have : n ≤ i := hg; omega) fun h' eb => ⟨rfl, I.turned (t' := s.toks) (fun b o hb e => eb b o hb e) f0 f1 f3 f4 f5⟩
  self := fun _ _ _ _ _ st h => wpAny_pyIter_rangeiter st h
section
variable {X : Cx} {tg : Expr}
theorem range_it3 {pins : List (Addr × Obj)} {σ : St} {H : Hp} {s : Shared} {R : It → Hp → Prop} {E : Value → Shared → Prop} {lo hi c : Int} {t u v : Tok} {tk : Nat} (I : Inv X pins σ H s) (h1 : -(2 ^ 60) ≤ lo) (h2 : lo < 2 ^ 60) (h3 : -(2 ^ 60) ≤ hi) (h4 : hi < 2 ^ 60) (h5 : -(2 ^ 30) < c) (h6 : c < 2 ^ 30)
    (q : R (Itr3 lo c (Builtin.Range.rangeSize lo hi c).toNat) H) : wpAny (model X.prog X.w) X.A (pyIter (.ref s.heap.objs.size)) (PIE X pins σ tg R) E { s with heap := s.heap.push { cls := .type "range", data := .fields #[.int lo t, .int hi u, .int c v] }, toks := tk } := by
  refine wpAny_pyIter_range (IsRange.new ..) (small_step h1 h2 h3 h4 h5 h6) ?_
  have I1 : Inv X pins σ H { s with heap := s.heap.push { cls := .type "range", data := .fields #[.int lo t, .int hi u, .int c v] }, toks := tk } := I.kept fun b o e => Heap.get?_push_of_some _ e
  refine ⟨(s.heap.push { cls := .type "range", data := .fields #[.int lo t, .int hi u, .int c v] }).objs.size, [(s.heap.push { cls := .type "range", data := .fields #[.int lo t, .int hi u, .int c v] }).objs.size], _, _, H, rfl,
    I1.kept (t' := tk) fun b o e => Heap.get?_push_of_some _ e, turn_range3 _ lo c (Builtin.Range.rangeSize lo hi c).toNat, ?_, fun b hb => ?_, q⟩
  · have e1 : lo + ((0 : Nat) : Int) * c = lo := by simp
    have e2 : (((Builtin.Range.rangeSize lo hi c).toNat : Nat) : Int) - ((0 : Nat) : Int) = Builtin.Range.rangeSize lo hi c := by rw [← PyProof.Rows.rangeSize_toNat]; simp
    show IsRangeIter _ _ (lo + ((0 : Nat) : Int) * c) ((((Builtin.Range.rangeSize lo hi c).toNat : Nat) : Int) - ((0 : Nat) : Int)) c
    rw [e1, e2]
    exact Heap.get?_push_size _ rfl
  · have e : b = (s.heap.push { cls := .type "range", data := .fields #[.int lo t, .int hi u, .int c v] }).objs.size := by simpa using hb
    subst e
    exact I1.fpOk (Nat.le_refl _) (I1.hok.fresh (Nat.le_refl _))
def iRng3 (ta : TA) : TI := fun σ H R => ta σ H fun vs H1 => ∃ i j c : Int, vs = [.int i, .int j, .int c] ∧ (-(2 ^ 60) ≤ i ∧ i < 2 ^ 60 ∧ -(2 ^ 60) ≤ j ∧ j < 2 ^ 60 ∧ -(2 ^ 30) < c ∧ c < 2 ^ 30 ∧ c ≠ 0) ∧ R (Itr3 i c (Builtin.Range.rangeSize i j c).toNat) H1
theorem pi_range3 {a b c : Expr} {ta : TA} {p pos : Pos} (hg : Gl X "range") (hm : X.mg "range" = none) (ha : PA X [a, b, c] ta) (hs : starEach [a, b, c] X.env = (false, eval a X.env) :: starEach [b, c] X.env) (hpl : (backTo pos (starEach [b, c] X.env)).any (·.1) = false) :
    PI X tg (.Call (.Name "range" p) [a, b, c] [] pos) (iRng3 ta) := by
  intro pins s σ H R I h
  refine Call_ (ld_blt I hg hm boot_range (PyProof.Rows.callWith_type1 (thn (ha pos pins s σ H _ I h) fun us s1 ⟨vs, H1, I1, r1, q1⟩ => ?_) hs hpl))
  obtain ⟨i, j, k, e, ⟨q1, q2, q3, q4, q5, q6, q7⟩, q⟩ := q1
  subst e
  cases r1 with
  | cons r rr =>
    cases rr with
    | cons r' rr =>
      cases rr with
      | cons r'' rr =>
        cases rr
        obtain ⟨t, rfl⟩ := r
        obtain ⟨t', rfl⟩ := r'
        obtain ⟨t'', rfl⟩ := r''
        exact call_range_3 q7 (range_it3 I1 q1 q2 q3 q4 q5 q6 q) (Or.inl (PyProof.noPylong_small (by omega)))
end
end L2
namespace PL
open PySem L2
section
variable {X : Cx} {pos : Pos}
/-! ### d.get(k, x) -/
def tGet2' (td ty tx : TE') : TE' := fun Γ Q => td Γ fun x Γ1 => (∃ ds, x = .dit ds) ∧ ty Γ1 fun y Γ2 => tx Γ2 fun z Γ3 => ∃ (ds : List (D × D)) (ks : List Key), x = .dit ds ∧ y = .tup (ks.map keyD) ∧ Q ((dFind ds y).getD z) Γ3
theorem OptD.getD {K : PySem.W.Frag} {H : Hp} {o : Option V} {d : Option D} {v : V} {e : D} (h : OptD K H o d) (r : Den K H v e) : Den K H (o.getD v) (d.getD e) := by
  cases h with
  | none => exact r
  | some h => exact h
theorem OptD.mono {K : PySem.W.Frag} {H H' : Hp} {o : Option V} {d : Option D} (h : OptD K H o d) (s : Same H H') : OptD K H' o d := by
  cases h with
  | none => exact .none
  | some h => exact .some (h.mono s)
theorem pe_get2' (hu : X.A.units + 1 < cLine) {o e f : Expr} {apos cpos : Pos} {td ty tx : TE'} (ho : PE' X o td) (he : PE' X e ty) (hf : PE' X f tx) (m : M2 X o "get" apos e f cpos := by exact ⟨rfl, rfl, rfl, rfl⟩) :
    PE' X (.Call (.Attribute o "get" apos) [e, f] [] cpos) (tGet2' td ty tx) := by
  refine ⟨PE.weak (pe_eget2 hu ho.h he.h hf.h m) ?_⟩
  rintro σ H Q ⟨W, Hi, Γ, Q', g, h, fin⟩
  refine ⟨W, Hi, Γ, _, g, h, ?_⟩
  rintro x H1 ⟨Hi1, d, Γ1, s1, g1, den1, ⟨ds, rfl⟩, h1⟩
  obtain ⟨a, kvs, ep, rfl, ha, dk⟩ := den1.ditI
  refine ⟨a, kvs, ep, rfl, g1.sub _ _ ha, W, Hi1, Γ1, _, g1, h1, ?_⟩
  rintro y H2 ⟨Hi2, dy, Γ2, s2, g2, den2, h2⟩
  refine ⟨W, Hi2, Γ2, _, g2, h2, ?_⟩
  rintro z H3 ⟨Hi3, dz, Γ3, s3, g3, den3, ds', ks, e1, rfl, q⟩
  cases e1
  obtain ⟨a', o, e2, gt, r⟩ := dgetT g3.fz (den1.mono (s2.trans s3)) (den2.mono s3)
  cases e2
  exact ⟨o, gt, fin _ H3 ⟨Hi3, _, Γ3, s1.trans (s2.trans s3), g3, r.getD den3, q⟩⟩
instance {td ty tx : TE'} [ME td] [ME ty] [ME tx] : ME (tGet2' td ty tx) := ⟨fun Γ _ _ h q => ME.mono (t := td) Γ _ _ (fun _ _ ⟨a, z⟩ => ⟨a, ME.mono (t := ty) _ _ _ (fun _ _ z => ME.mono (t := tx) _ _ _ (fun _ _ ⟨ds, ks, b, c, z⟩ => ⟨ds, ks, b, c, h _ _ z⟩) z) z⟩) q⟩
/-! ### in, of texts -/
def rInT' (neg : Bool) : R2' := fun x y Q => ∃ (l : List Nat) (ms : List (List Nat)), x = .str l ∧ (y = .tup (ms.map .str) ∨ y = .lst (ms.map .str)) ∧ Q (.bl (if neg then !decide (l ∈ ms) else decide (l ∈ ms)))
theorem den_strs {K : PySem.W.Frag} {Hi : Hp} : ∀ {vs : List V} {ms : List (List Nat)}, DenL K Hi vs (ms.map .str) → vs = ms.map fun m => V.str (st m)
  | [], [], _ => rfl
  | v :: vs, m :: ms, .cons r t => by rw [List.map_cons, ← r.strI, ← den_strs t]
  | [], _ :: _, h => nomatch h
  | _ :: _, [], h => nomatch h
theorem inV_strs (l : List Nat) : ∀ ms : List (List Nat), inV (.str (st l)) (ms.map fun m => V.str (st m)) = decide (l ∈ ms)
  | [] => rfl
  | m :: ms => by
    have ih := inV_strs l ms
    unfold inV at ih ⊢
    rw [List.map_cons, List.any_cons, ih]
    have e : eqV (.str (st m)) (.str (st l)) = decide (m = l) := by
      show decide (st m = st l) = _
      by_cases h : m = l
      · rw [h]; simp
      · rw [decide_eq_false h, decide_eq_false (fun z => h (by
          have := congrArg (fun x : Str => x.cps.toList) z
          simpa [st] using this))]
    rw [e]
    by_cases h : m = l
    · subst h; simp
    · have h' : ¬ l = m := fun z => h z.symm
      simp [h, h']
theorem flat_strs (ms : List (List Nat)) : (ms.map fun m => V.str (st m)).all flatV = true := by
  rw [List.all_eq_true]
  intro x hx
  obtain ⟨m, _, rfl⟩ := List.mem_map.mp hx
  rfl
theorem lift_inT {K : PySem.W.Frag} (neg : Bool) : Lift2 K (rIn K neg) (rInT' neg) := by
  rintro Hi H x y dx dy Q Q2 s d1 d2 ⟨l, ms, rfl, hy, q⟩ fin
  cases d1.strI
  rcases hy with rfl | rfl
  · obtain ⟨a, vs, rfl, h1, h2⟩ := d2.tupJ
    rw [den_strs h2] at h1
    refine ⟨a, _, rfl, .inr (SqT.of (s.sub _ _ h1)), rfl, flat_strs ms, ?_⟩
    rw [inV_strs]
    exact fin Hi H _ _ (Ext.refl s) (.bl _) q
  · obtain ⟨a, vs, rfl, h1, h2⟩ := d2.lstI
    rw [den_strs h2] at h1
    refine ⟨a, _, rfl, .inl (sqL_mono s.sub h1), rfl, flat_strs ms, ?_⟩
    rw [inV_strs]
    exact fin Hi H _ _ (Ext.refl s) (.bl _) q
theorem o_inStrs : Op2 X (compareOp .In) (rInT' false) := ⟨_, op_in_seq, lift_inT false⟩
theorem o_notInStrs : Op2 X (compareOp .NotIn) (rInT' true) := ⟨_, op_notIn_seq, lift_inT true⟩
instance {neg : Bool} : MR2 (rInT' neg) := ⟨fun _ _ _ _ h ⟨l, ms, a, b, q⟩ => ⟨l, ms, a, b, h _ q⟩⟩
/-! ### range with a step -/
theorem itd_rng3 {K : PySem.W.Frag} {Hi : Hp} (lo c : Int) (n : Nat) : ItD K Hi (Itr3 lo c n) ((List.range n).map fun k => .int (lo + (k : Nat) * c)) := by
  intro Hi' H' s f
  refine ⟨fun i d e => ?_, by show n ≤ _; simp⟩
  have hi : i < n := by
    have := (List.getElem?_eq_some_iff.mp e).1
    simpa using this
  rw [List.getElem?_map, List.getElem?_range hi] at e
  cases e
  refine ⟨hi, ?_⟩
  rintro x H'' ⟨rfl, rfl⟩
  exact ⟨Hi', Ext.refl f, .int _⟩
def rngL (i j c : Int) : List D := (List.range (Builtin.Range.rangeSize i j c).toNat).map fun k => .int (i + (k : Nat) * c)
def iRng3' (t : TA') : TI' := fun Γ Q => t Γ fun ds Γ1 => ∃ i j c : Int, ds = [.int i, .int j, .int c] ∧ (-(2 ^ 60) ≤ i ∧ i < 2 ^ 60 ∧ -(2 ^ 60) ≤ j ∧ j < 2 ^ 60 ∧ -(2 ^ 30) < c ∧ c < 2 ^ 30 ∧ c ≠ 0) ∧ Q (rngL i j c) Γ1
theorem denL3 {K : PySem.W.Frag} {H : Hp} {vs : List V} {d e f : D} (h : DenL K H vs [d, e, f]) : ∃ v w u, vs = [v, w, u] ∧ Den K H v d ∧ Den K H w e ∧ Den K H u f := by
  cases h with
  | cons r t =>
    cases t with
    | cons r' t => 
      cases t with
      | cons r'' t => cases t; exact ⟨_, _, _, rfl, r, r', r''⟩
theorem pi_range3' {a b c tg : Expr} {t : TA'} {p pos : Pos} (hm : X.mg "range" = none) (ha : PA' X [a, b, c] t) (hg : Gl X "range" := by rfl) : PI' X tg (.Call (.Name "range" p) [a, b, c] [] pos) (iRng3' t) := by
  refine ⟨PI.weak (pi_range3 hg hm ha.pa (star_of (plain_cons ha.pl).1) (plain_any (plain_cons ha.pl).2)) ?_⟩
  rintro σ H R ⟨W, Hi, Γ, Q', g, h, fin⟩
  refine ⟨W, Hi, Γ, _, g, h, ?_⟩
  rintro vs H1 Hi1 Γ1 ds s1 g1 dl ⟨i, j, c, rfl, b, q⟩
  obtain ⟨v, w, u, rfl, d1, d2, d3⟩ := denL3 dl
  exact ⟨i, j, c, by rw [d1.intI, d2.intI, d3.intI], b, fin _ H1 Hi1 Γ1 _ s1 g1 (itd_rng3 i c _) q⟩
instance {t : TA'} [MA t] : MI (iRng3' t) := ⟨fun Γ _ _ h q => MA.mono (t := t) Γ _ _ (fun _ _ ⟨i, j, c, e, a, z⟩ => ⟨i, j, c, e, a, h _ _ z⟩) q⟩
end
end PL

namespace PL
open PySem L2
section
variable {X : Cx} {Q : D → Prop}
/-! ### operations of every kind, joined -/
instance : MR2 rAddT := ⟨fun _ _ _ _ h ⟨i, j, a, b, c, q⟩ => ⟨i, j, a, b, c, h _ q⟩⟩
def rAddA : R2' := fun x y Q => rAdd' x y Q ∨ rAddT x y Q
theorem o_AddA : Op2 X (binaryOp .Add) rAddA := o_Add.or o_addt
instance : MR2 rAddA := ⟨fun _ _ _ _ h q => q.imp (MR2.mono (r := rAdd') _ _ _ _ h) (MR2.mono (r := rAddT) _ _ _ _ h)⟩
instance {neg : Bool} : MR2 (rInT neg) := ⟨fun _ _ _ _ h ⟨i, j, a, b, q⟩ => ⟨i, j, a, b, h _ q⟩⟩
def rInA : R2' := fun x y Q => rInS false x y Q ∨ rInT false x y Q ∨ rInT' false x y Q
theorem o_InA (hu : X.A.units + 1 < cLine) : Op2 X (compareOp .In) rInA := o_inS.or ((o_inT hu).or o_inStrs)
instance : MR2 rInA := ⟨fun _ _ _ _ h q => q.imp (MR2.mono (r := rInS false) _ _ _ _ h) (fun q => q.imp (MR2.mono (r := rInT false) _ _ _ _ h) (MR2.mono (r := rInT' false) _ _ _ _ h))⟩
def rNotInA : R2' := fun x y Q => rNotIn' x y Q ∨ rInT true x y Q ∨ rInT' true x y Q
theorem o_NotInA (hu : X.A.units + 1 < cLine) : Op2 X (compareOp .NotIn) rNotInA := o_NotIn.or ((o_notInT hu).or o_notInStrs)
instance : MR2 rNotInA := ⟨fun _ _ _ _ h q => q.imp (MR2.mono (r := rNotIn') _ _ _ _ h) (fun q => q.imp (MR2.mono (r := rInT true) _ _ _ _ h) (MR2.mono (r := rInT' true) _ _ _ _ h))⟩
instance : MR2 rGetT := ⟨fun _ _ _ _ h ⟨i, j, v, a, b, c, q⟩ => ⟨i, j, v, a, b, c, h _ q⟩⟩
def rIxA : R2' := fun x y Q => rIx' x y Q ∨ rGetT x y Q
theorem i_A (hu : X.A.units + 1 < cLine) : Ixs X rIxA := i_seq.or (i_dit hu)
instance : MR2 rIxA := ⟨fun _ _ _ _ h q => q.imp (MR2.mono (r := rIx') _ _ _ _ h) (MR2.mono (r := rGetT) _ _ _ _ h)⟩
instance : MRS rSlT' := ⟨fun _ _ _ _ _ h ⟨ds, e, q⟩ => ⟨ds, e, h _ q⟩⟩
def rSlA : RS' := fun x lo hi Q => rSl' x lo hi Q ∨ rSlT' x lo hi Q
theorem s_A : Sli X rSlA := s_sl.or s_tup
instance : MRS rSlA := ⟨fun _ _ _ _ _ h q => q.imp (MRS.mono (r := rSl') _ _ _ _ _ h) (MRS.mono (r := rSlT') _ _ _ _ _ h)⟩
def rLenA : RC' := fun ds Q => rLen' ds Q ∨ rLenT ds Q
theorem c_lenA : Cal X (.builtin "len") rLenA := c_len.or c_lenT
instance : MRC rLenA := ⟨fun _ _ _ h q => q.imp (MRC.mono (r := rLen') _ _ _ h) (MRC.mono (r := rLenT) _ _ _ h)⟩
def rListA : RCO' := fun ds Q => rListOf ds Q ∨ rListOfT ds Q
theorem c_listA (hc : X.calm = true) : CalO X (.type "list") rListA := c_list.or (c_listT hc)
instance : MRCO rListA := ⟨fun _ _ _ h q => q.imp (MRCO.mono (r := rListOf) _ _ _ h) (MRCO.mono (r := rListOfT) _ _ _ h)⟩
/-! ### how they come out -/
@[simp] theorem tup_nil : D.tup [] = plc [] := rfl
@[simp] theorem tup_one (l : List Nat) : D.tup [.str l] = plc [l] := rfl
theorem plc_two (l m : List Nat) : D.tup [.str l, .str m] = plc [l, m] := rfl
def keysOf (p : List (List Nat)) : List Key := p.map fun l => Sum.inr (st l)
theorem plc_key (p : List (List Nat)) : plc p = .tup ((keysOf p).map keyD) := by
  unfold plc keysOf
  rw [List.map_map]
  exact congrArg D.tup (List.map_congr_left fun l _ => by
    show D.str l = D.str (st l).cps.toList
    rw [st_list])
theorem plc_inj {p q : List (List Nat)} (h : plc p = plc q) : p = q := by
  unfold plc at h
  injection h with h
  exact (List.map_inj_right (fun a b h => D.str.inj h)).mp h
@[simp] theorem plc_eq (p q : List (List Nat)) : plc p = plc q ↔ p = q := ⟨plc_inj, fun h => by rw [h]⟩
@[simp] theorem rAddA_int (i j : Int) : rAddA (.int i) (.int j) Q ↔ Q (.int (i + j)) := by simp [rAddA, rAddT]
@[simp] theorem rAddA_str (l m : List Nat) : rAddA (.str l) (.str m) Q ↔ l.length + m.length ≤ sizeLine ∧ Q (.str (l ++ m)) := by simp [rAddA, rAddT]
@[simp] theorem rAddA_plc (p q : List (List Nat)) : rAddA (plc p) (plc q) Q ↔ p.length + q.length ≤ sizeLine ∧ Q (plc (p ++ q)) := by
  simp [rAddA, rAddT, rAdd', rAddS, plc]
@[simp] theorem rInA_ch (c : Nat) (l : List Nat) : rInA (.str [c]) (.str l) Q ↔ Q (.bl (decide (c ∈ l))) := by simp [rInA, rInT, rInT']
theorem rInA_strs (l : List Nat) (ms : List (List Nat)) (h : Q (.bl (decide (l ∈ ms)))) : rInA (.str l) (plc ms) Q := .inr (.inr ⟨l, ms, rfl, .inl rfl, h⟩)
theorem rNotInA_dit (p : List (List Nat)) (ds : List (D × D)) (h : Q (.bl (!(dFind ds (plc p)).isSome))) : rNotInA (plc p) (.dit ds) Q := .inr (.inl ⟨keysOf p, ds, plc_key p, rfl, h⟩)
@[simp] theorem rIxA_lst (ds : List D) (i : Int) : rIxA (.lst ds) (.int i) Q ↔ ∃ d, atI ds i = some d ∧ Q d := by simp [rIxA, rGetT]
@[simp] theorem rIxA_tup (ds : List D) (i : Int) : rIxA (.tup ds) (.int i) Q ↔ ∃ d, atI ds i = some d ∧ Q d := by simp [rIxA, rGetT]
@[simp] theorem rIxA_str (l : List Nat) (i : Int) : rIxA (.str l) (.int i) Q ↔ l.length ≤ sizeLine ∧ ∃ c, atI l i = some c ∧ Q (.str [c]) := by simp [rIxA, rGetT]
@[simp] theorem rIxA_plc (p : List (List Nat)) (i : Int) : rIxA (plc p) (.int i) Q ↔ ∃ d, atI (p.map D.str) i = some d ∧ Q d := rIxA_tup _ i
@[simp] theorem rSlA_to (l : List Nat) (n : Int) : rSlA (.str l) none (some n) Q ↔ l.length ≤ sizeLine ∧ 0 ≤ n ∧ Q (.str (l.take n.toNat)) := by simp [rSlA, rSlT']
@[simp] theorem rSlA_from (l : List Nat) (n : Int) : rSlA (.str l) (some n) none Q ↔ l.length ≤ sizeLine ∧ 0 ≤ n ∧ Q (.str (l.drop n.toNat)) := by simp [rSlA, rSlT']
@[simp] theorem rSlA_lst (ds : List D) (lo hi : Option Int) : rSlA (.lst ds) lo hi Q ↔ Q (.lst (cutD ds lo hi)) := by simp [rSlA, rSlT']
@[simp] theorem rSlA_tup (ds : List D) (lo hi : Option Int) : rSlA (.tup ds) lo hi Q ↔ Q (.tup (cutD ds lo hi)) := by simp [rSlA, rSlT', rSl', rSlS', rSlL']
theorem cutD_map {α β : Type} (f : α → β) (xs : List α) (lo hi : Option Int) : cutD (xs.map f) lo hi = (cutD xs lo hi).map f := by
  unfold cutD
  rw [List.length_map, List.map_take, List.map_drop]
@[simp] theorem rSlA_plc (p : List (List Nat)) (lo hi : Option Int) : rSlA (plc p) lo hi Q ↔ Q (plc (cutD p lo hi)) := by
  unfold plc
  rw [rSlA_tup, cutD_map]
@[simp] theorem rLenA_str (l : List Nat) : rLenA [.str l] Q ↔ l.length ≤ sizeLine ∧ Q (.int (l.length : Nat)) := by simp [rLenA, rLenT]
@[simp] theorem rLenA_lst (l : List D) : rLenA [.lst l] Q ↔ Q (.int (l.length : Nat)) := by simp [rLenA, rLenT]
@[simp] theorem rLenA_tup (l : List D) : rLenA [.tup l] Q ↔ Q (.int (l.length : Nat)) := by simp [rLenA, rLenT]
@[simp] theorem rLenA_plc (p : List (List Nat)) : rLenA [plc p] Q ↔ Q (.int (p.length : Nat)) := by
  unfold plc
  rw [rLenA_tup, List.length_map]
@[simp] theorem rLenA_dit (l : List (D × D)) : rLenA [.dit l] Q ↔ Q (.int (l.length : Nat)) := by simp [rLenA, rLenT, rLen']
@[simp] theorem seqD_plc (p : List (List Nat)) : seqD (plc p) = some (p.map .str) := rfl
@[simp] theorem rListA_lst {Q : OD → Prop} (l : List D) : rListA [.lst l] Q ↔ Q (.lst l) := by simp [rListA, rListOf, rListOfT]
@[simp] theorem rListA_tup {Q : OD → Prop} (l : List D) : rListA [.tup l] Q ↔ Q (.lst l) := by simp [rListA, rListOf, rListOfT]
@[simp] theorem rListA_dit {Q : OD → Prop} (l : List (D × D)) : rListA [.dit l] Q ↔ Q (.lst (l.map (·.1))) := by simp [rListA, rListOf, rListOfT]
/-! slices, as parts -/
theorem cutD_to {α : Type} (xs : List α) (n : Nat) : cutD xs none (some (n : Int)) = xs.take n := by
  unfold cutD
  rw [HT.sIx_none, HT.sIx_nat, List.drop_zero, Nat.sub_zero]
  by_cases h : n ≤ xs.length
  · rw [Nat.min_eq_left h]
  · rw [Nat.min_eq_right (by omega), List.take_length, List.take_of_length_le (by omega)]
theorem cutD_init {α : Type} (xs : List α) : cutD xs none (some (-1)) = xs.dropLast := by
  unfold cutD
  have e : HT.sIx xs.length xs.length (some (-1)) = xs.length - 1 := by
    show (if (-1 : Int) < 0 then ((-1 : Int) + (xs.length : Int)).toNat else min (-1 : Int).toNat xs.length) = _
    rw [if_pos (by decide)]
    omega
  rw [HT.sIx_none, e, List.drop_zero, Nat.sub_zero, List.dropLast_eq_take]
theorem pe_neg' {i : Int} {j : Nat} {p pos : Pos} : PE' X (.UnaryOp .USub (.Constant (.int i) j p) pos) (tC' (.int (-i))) := by
  refine pe_c' (v := .int (-i)) (PE.weak (pe_un un_neg pe_int) ?_) fun _ => .int _
  intro σ H Q q
  exact ⟨i, rfl, q⟩
theorem hu100 {A : Around} {k : Nat} (hr : Room k A) : A.units + 100 < cLine := by have := hr.un; omega
@[simp] theorem atI_0 {α : Type} (a : α) (l : List α) : atI (a :: l) 0 = some a := atI_nat (j := 0) rfl
@[simp] theorem atI_1 {α : Type} (a b : α) (l : List α) : atI (a :: b :: l) 1 = some b := atI_nat (j := 1) rfl
@[simp] theorem atI_2 {α : Type} (a b c : α) (l : List α) : atI (a :: b :: c :: l) 2 = some c := atI_nat (j := 2) rfl
@[simp] theorem atI_3 {α : Type} (a b c d : α) (l : List α) : atI (a :: b :: c :: d :: l) 3 = some d := atI_nat (j := 3) rfl
/-! isinstance -/
@[simp] theorem cxOf_K {CX : CXT} {P : Program} {w : World} {K : PySem.W.Frag} {mg : Str → Option Value} {base : Heap} {N : List Str} {q : Str} {sc : Scope} {f : Addr} {cd : Value} {A : Around} {o : List Env} {s : Shared} {H : Hp} {E : XK} : (cxOf CX P w K mg base N q sc f cd A o s H E).K = K := rfl
@[simp] theorem cxOf_N {CX : CXT} {P : Program} {w : World} {K : PySem.W.Frag} {mg : Str → Option Value} {base : Heap} {N : List Str} {q : Str} {sc : Scope} {f : Addr} {cd : Value} {A : Around} {o : List Env} {s : Shared} {H : Hp} {E : XK} : (cxOf CX P w K mg base N q sc f cd A o s H E).N = N := rfl
@[simp] theorem rIsiA_obj (K : PySem.W.Frag) (C c : Addr) (fs : List (Str × D)) : rIsiA K [.obj C fs, .cls c] Q ↔ InsT K C ∧ ∃ b, PySem.W.kitOne K (.ref C) (.ref c) = some b ∧ Q (.bl b) := by
  constructor
  · rintro ⟨d, t, cd, v, b, e, h1, h2, h3, q⟩
    injection e with e1 e2
    injection e2 with e2 _
    subst e1 e2
    cases h1
    rcases h2 with ⟨n, _, h2⟩ | ⟨C', fs', e, rfl, T⟩
    · cases h2
    · cases e
      exact ⟨T, b, h3, q⟩
  · rintro ⟨T, b, h, q⟩
    exact ⟨_, _, _, _, b, rfl, rfl, .inr ⟨C, fs, rfl, rfl, T⟩, h, q⟩
@[simp] theorem rIsiA_objT (K : PySem.W.Frag) (C : Addr) (n : String) (fs : List (Str × D)) : rIsiA K [.obj C fs, .ty n] Q ↔ InsT K C ∧ ∃ b, PySem.W.kitOne K (.ref C) (.type n) = some b ∧ Q (.bl b) := by
  constructor
  · rintro ⟨d, t, cd, v, b, e, h1, h2, h3, q⟩
    injection e with e1 e2
    injection e2 with e2 _
    subst e1 e2
    cases h1
    rcases h2 with ⟨n, _, h2⟩ | ⟨C', fs', e, rfl, T⟩
    · cases h2
    · cases e
      exact ⟨T, b, h3, q⟩
  · rintro ⟨T, b, h, q⟩
    exact ⟨_, _, _, _, b, rfl, rfl, .inr ⟨C, fs, rfl, rfl, T⟩, h, q⟩
theorem rIsiA_kind (K : PySem.W.Frag) {d : D} {n : String} (hk : kindD d = some n) {cd : D} {c : Value} (hc : clsD cd = some c) : rIsiA K [d, cd] Q ↔ ∃ b, PySem.W.kitOne K (.type n) c = some b ∧ Q (.bl b) := by
  constructor
  · rintro ⟨d', t, cd', v, b, e, h1, h2, h3, q⟩
    injection e with e1 e2
    injection e2 with e2 _
    subst e1 e2
    rw [hc] at h1
    cases h1
    rcases h2 with ⟨m, rfl, h2⟩ | ⟨C', fs', rfl, rfl, T⟩
    · rw [hk] at h2
      cases h2
      exact ⟨b, h3, q⟩
    · cases hk
  · rintro ⟨b, h, q⟩
    exact ⟨d, _, cd, c, b, rfl, hc, .inl ⟨n, rfl, hk⟩, h, q⟩
@[simp] theorem rIsiA_non (K : PySem.W.Frag) (c : String)  : rIsiA K [.non, .ty c] Q ↔ ∃ b, PySem.W.kitOne K (.type "NoneType") (.type c) = some b ∧ Q (.bl b) := rIsiA_kind K rfl rfl
@[simp] theorem rIsiA_nonC (K : PySem.W.Frag) (c : Addr)  : rIsiA K [.non, .cls c] Q ↔ ∃ b, PySem.W.kitOne K (.type "NoneType") (.ref c) = some b ∧ Q (.bl b) := rIsiA_kind K rfl rfl
@[simp] theorem rIsiA_bl (K : PySem.W.Frag) (c : String) (x : Bool) : rIsiA K [(.bl x), .ty c] Q ↔ ∃ b, PySem.W.kitOne K (.type "bool") (.type c) = some b ∧ Q (.bl b) := rIsiA_kind K rfl rfl
@[simp] theorem rIsiA_blC (K : PySem.W.Frag) (c : Addr) (x : Bool) : rIsiA K [(.bl x), .cls c] Q ↔ ∃ b, PySem.W.kitOne K (.type "bool") (.ref c) = some b ∧ Q (.bl b) := rIsiA_kind K rfl rfl
@[simp] theorem rIsiA_int (K : PySem.W.Frag) (c : String) (x : Int) : rIsiA K [(.int x), .ty c] Q ↔ ∃ b, PySem.W.kitOne K (.type "int") (.type c) = some b ∧ Q (.bl b) := rIsiA_kind K rfl rfl
@[simp] theorem rIsiA_intC (K : PySem.W.Frag) (c : Addr) (x : Int) : rIsiA K [(.int x), .cls c] Q ↔ ∃ b, PySem.W.kitOne K (.type "int") (.ref c) = some b ∧ Q (.bl b) := rIsiA_kind K rfl rfl
@[simp] theorem rIsiA_str (K : PySem.W.Frag) (c : String) (x : List Nat) : rIsiA K [(.str x), .ty c] Q ↔ ∃ b, PySem.W.kitOne K (.type "str") (.type c) = some b ∧ Q (.bl b) := rIsiA_kind K rfl rfl
@[simp] theorem rIsiA_strC (K : PySem.W.Frag) (c : Addr) (x : List Nat) : rIsiA K [(.str x), .cls c] Q ↔ ∃ b, PySem.W.kitOne K (.type "str") (.ref c) = some b ∧ Q (.bl b) := rIsiA_kind K rfl rfl
@[simp] theorem rIsiA_lst (K : PySem.W.Frag) (c : String) (x : List D) : rIsiA K [(.lst x), .ty c] Q ↔ ∃ b, PySem.W.kitOne K (.type "list") (.type c) = some b ∧ Q (.bl b) := rIsiA_kind K rfl rfl
@[simp] theorem rIsiA_lstC (K : PySem.W.Frag) (c : Addr) (x : List D) : rIsiA K [(.lst x), .cls c] Q ↔ ∃ b, PySem.W.kitOne K (.type "list") (.ref c) = some b ∧ Q (.bl b) := rIsiA_kind K rfl rfl
@[simp] theorem rIsiA_tup (K : PySem.W.Frag) (c : String) (x : List D) : rIsiA K [(.tup x), .ty c] Q ↔ ∃ b, PySem.W.kitOne K (.type "tuple") (.type c) = some b ∧ Q (.bl b) := rIsiA_kind K rfl rfl
@[simp] theorem rIsiA_tupC (K : PySem.W.Frag) (c : Addr) (x : List D) : rIsiA K [(.tup x), .cls c] Q ↔ ∃ b, PySem.W.kitOne K (.type "tuple") (.ref c) = some b ∧ Q (.bl b) := rIsiA_kind K rfl rfl
@[simp] theorem rIsiA_plc (K : PySem.W.Frag) (c : String) (x : List (List Nat)) : rIsiA K [(plc x), .ty c] Q ↔ ∃ b, PySem.W.kitOne K (.type "tuple") (.type c) = some b ∧ Q (.bl b) := rIsiA_kind K rfl rfl
@[simp] theorem rIsiA_plcC (K : PySem.W.Frag) (c : Addr) (x : List (List Nat)) : rIsiA K [(plc x), .cls c] Q ↔ ∃ b, PySem.W.kitOne K (.type "tuple") (.ref c) = some b ∧ Q (.bl b) := rIsiA_kind K rfl rfl
@[simp] theorem rIsiA_dic (K : PySem.W.Frag) (c : String) (x : List (D × D)) : rIsiA K [(.dic x), .ty c] Q ↔ ∃ b, PySem.W.kitOne K (.type "dict") (.type c) = some b ∧ Q (.bl b) := rIsiA_kind K rfl rfl
@[simp] theorem rIsiA_dicC (K : PySem.W.Frag) (c : Addr) (x : List (D × D)) : rIsiA K [(.dic x), .cls c] Q ↔ ∃ b, PySem.W.kitOne K (.type "dict") (.ref c) = some b ∧ Q (.bl b) := rIsiA_kind K rfl rfl
end
end PL

namespace Lb
def Sml (c : Nat) : Prop := 97 ≤ c ∧ c ≤ 122
def lets : List Nat := [97, 98, 99, 100, 101, 102, 103, 104, 105, 106, 107, 108, 109, 110, 111, 112, 113, 114, 115, 116, 117, 118, 119, 120, 121, 122]
def figs : List Nat := [48, 49, 50, 51, 52, 53, 54, 55, 56, 57]
theorem mem_lets (c : Nat) : c ∈ lets ↔ Sml c := by
  simp only [lets, Sml, List.mem_cons, List.not_mem_nil, or_false]
  omega
/-! the order of letters -/
end Lb

namespace Lb
def wsg : List Nat := lets ++ figs
end Lb

namespace M24
abbrev Pl := List (List Nat)
inductive Knd where
  | W | F | B
  deriving DecidableEq
def above (p q : Pl) : Bool := decide (q.take p.length = p)
theorem above_iff {p q : Pl} : above p q = true ↔ p <+: q := by
  unfold above
  rw [decide_eq_true_iff]
  constructor
  · intro h
    exact ⟨q.drop p.length, by
      have e := List.take_append_drop p.length q
      rw [h] at e
      exact e⟩
  · rintro ⟨t, rfl⟩
    simp
def hasWords (k : Knd) (p q : Pl) : Bool := match k with
  | .W => decide (p = q)
  | .F => above p q
  | .B => !decide (p = q) && above p q
def common (k1 : Knd) (p1 : Pl) (k2 : Knd) (p2 : Pl) : Bool :=
  if k1 = .W then hasWords k2 p2 p1 else if k2 = .W then hasWords k1 p1 p2 else above p1 p2 || above p2 p1
def touches (k : Knd) (g p : Pl) (lab : Bool) : Bool := match k with
  | .W => decide (p = g) && !lab
  | .F => decide (g.length ≤ p.length) && decide (p.take g.length = g)
  | .B => if p.length = g.length then false else decide (g.length ≤ p.length) && decide (p.take g.length = g)
def both (k1 : Knd) (p1 : Pl) (k2 : Knd) (p2 p : Pl) (lab : Bool) : Bool := touches k1 p1 p lab && touches k2 p2 p lab
def spots (p1 p2 : Pl) : List Pl := [p1, p1 ++ [[49]], p2, p2 ++ [[49]]]
/-- the law's own answer -/
def lawApart (k1 : Knd) (p1 : Pl) (k2 : Knd) (p2 : Pl) : Bool := !((spots p1 p2).any fun p => both k1 p1 k2 p2 p false || both k1 p1 k2 p2 p true)
theorem touchF {g p : Pl} {lab : Bool} : touches .F g p lab = true ↔ g <+: p := by
  unfold touches
  simp only [Bool.and_eq_true, decide_eq_true_iff]
  constructor
  · rintro ⟨_, h⟩
    exact above_iff.mp (by unfold above; exact decide_eq_true h)
  · intro h
    exact ⟨h.length_le, of_decide_eq_true (above_iff.mpr h)⟩
theorem touchB {g p : Pl} {lab : Bool} : touches .B g p lab = true ↔ g <+: p ∧ p ≠ g := by
  have e : touches .B g p lab = if p.length = g.length then false else touches .F g p lab := rfl
  rw [e]
  split
  · rename_i h
    constructor
    · intro z; cases z
    · rintro ⟨h1, h2⟩
      exact absurd (h1.eq_of_length h.symm).symm h2
  · rename_i h
    rw [touchF]
    constructor
    · intro z
      exact ⟨z, fun y => h (by rw [y])⟩
    · exact fun z => z.1
theorem touchW {g p : Pl} {lab : Bool} : touches .W g p lab = true ↔ p = g ∧ lab = false := by
  unfold touches
  simp
theorem any_iff {k1 k2 : Knd} {p1 p2 : Pl} : ((spots p1 p2).any fun p => both k1 p1 k2 p2 p false || both k1 p1 k2 p2 p true) = true ↔ ∃ p, p ∈ spots p1 p2 ∧ ∃ lab, touches k1 p1 p lab = true ∧ touches k2 p2 p lab = true := by
  rw [List.any_eq_true]
  constructor
  · rintro ⟨p, hp, h⟩
    rw [Bool.or_eq_true] at h
    unfold both at h
    rw [Bool.and_eq_true, Bool.and_eq_true] at h
    rcases h with h | h
    · exact ⟨p, hp, false, h⟩
    · exact ⟨p, hp, true, h⟩
  · rintro ⟨p, hp, lab, h⟩
    refine ⟨p, hp, ?_⟩
    rw [Bool.or_eq_true]
    unfold both
    rw [Bool.and_eq_true, Bool.and_eq_true]
    cases lab
    · exact .inl h
    · exact .inr h
theorem mem1 {p1 p2 : Pl} : p1 ∈ spots p1 p2 := by simp [spots]
theorem mem1' {p1 p2 : Pl} : p1 ++ [[49]] ∈ spots p1 p2 := by simp [spots]
theorem mem2 {p1 p2 : Pl} : p2 ∈ spots p1 p2 := by simp [spots]
theorem mem2' {p1 p2 : Pl} : p2 ++ [[49]] ∈ spots p1 p2 := by simp [spots]
theorem ne_app {p q : Pl} (h : p <+: q) : q ++ [[49]] ≠ p := fun z => by
  have h1 := h.length_le
  have h2 := congrArg List.length z
  rw [List.length_append] at h2
  simp at h2
  omega
theorem pre_app {p q : Pl} (h : p <+: q) : p <+: q ++ [[49]] := h.trans (List.prefix_append _ _)
theorem comp {p1 p2 p : Pl} (h1 : p1 <+: p) (h2 : p2 <+: p) : p1 <+: p2 ∨ p2 <+: p1 := by
  by_cases h : p1.length ≤ p2.length
  · exact .inl (List.prefix_of_prefix_length_le h1 h2 h)
  · exact .inr (List.prefix_of_prefix_length_le h2 h1 (by omega))
theorem hw_iff {k : Knd} {p q : Pl} : hasWords k p q = true ↔ touches k p q false = true := by
  cases k with
  | W => rw [touchW]; simp [hasWords, eq_comm]
  | F => rw [touchF]; exact above_iff
  | B =>
    rw [touchB]
    unfold hasWords
    rw [Bool.and_eq_true, above_iff]
    simp only [Bool.not_eq_true', decide_eq_false_iff_not]
    exact ⟨fun ⟨a, b⟩ => ⟨b, fun z => a z.symm⟩, fun ⟨a, b⟩ => ⟨fun z => b z.symm, a⟩⟩
theorem common_iff {k1 k2 : Knd} {p1 p2 : Pl} : common k1 p1 k2 p2 = true ↔ ∃ p, p ∈ spots p1 p2 ∧ ∃ lab, touches k1 p1 p lab = true ∧ touches k2 p2 p lab = true := by
  unfold common
  by_cases w1 : k1 = .W
  · subst w1
    rw [if_pos rfl, hw_iff]
    constructor
    · intro h
      exact ⟨p1, mem1, false, touchW.mpr ⟨rfl, rfl⟩, h⟩
    · rintro ⟨p, _, lab, h1, h2⟩
      obtain ⟨rfl, rfl⟩ := touchW.mp h1
      exact h2
  · rw [if_neg w1]
    by_cases w2 : k2 = .W
    · subst w2
      rw [if_pos rfl, hw_iff]
      constructor
      · intro h
        exact ⟨p2, mem2, false, h, touchW.mpr ⟨rfl, rfl⟩⟩
      · rintro ⟨p, _, lab, h1, h2⟩
        obtain ⟨rfl, rfl⟩ := touchW.mp h2
        exact h1
    · rw [if_neg w2, Bool.or_eq_true, above_iff, above_iff]
      have pre : ∀ {k : Knd} {g p : Pl} {lab : Bool}, k ≠ .W → touches k g p lab = true → g <+: p := by
        intro k g p lab hk h
        cases k with
        | W => exact absurd rfl hk
        | F => exact touchF.mp h
        | B => exact (touchB.mp h).1
      have mk : ∀ {k : Knd} {g q : Pl}, k ≠ .W → g <+: q → touches k g (q ++ [[49]]) false = true := by
        intro k g q hk h
        cases k with
        | W => exact absurd rfl hk
        | F => exact touchF.mpr (pre_app h)
        | B => exact touchB.mpr ⟨pre_app h, ne_app h⟩
      constructor
      · rintro (h | h)
        · exact ⟨_, mem2', false, mk w1 h, mk w2 (List.prefix_refl _)⟩
        · exact ⟨_, mem1', false, mk w1 (List.prefix_refl _), mk w2 h⟩
      · rintro ⟨p, _, lab, h1, h2⟩
        exact comp (pre w1 h1) (pre w2 h2)
theorem apart_eq (k1 : Knd) (p1 : Pl) (k2 : Knd) (p2 : Pl) : (!common k1 p1 k2 p2) = lawApart k1 p1 k2 p2 := by
  unfold lawApart
  congr 1
  rw [Bool.eq_iff_iff, common_iff, any_iff]
theorem apart_symm (k1 : Knd) (p1 : Pl) (k2 : Knd) (p2 : Pl) : common k1 p1 k2 p2 = common k2 p2 k1 p1 := by
  rw [Bool.eq_iff_iff, common_iff, common_iff]
  constructor
  · rintro ⟨p, hp, lab, h1, h2⟩
    refine ⟨p, ?_, lab, h2, h1⟩
    simp only [spots, List.mem_cons, List.not_mem_nil, or_false] at hp ⊢
    rcases hp with h | h | h | h <;> simp [h]
  · rintro ⟨p, hp, lab, h1, h2⟩
    refine ⟨p, ?_, lab, h2, h1⟩
    simp only [spots, List.mem_cons, List.not_mem_nil, or_false] at hp ⊢
    rcases hp with h | h | h | h <;> simp [h]
end M24

namespace K24
open PySem L2 Lb PL M24
def top (i : Nat) : Stmt := PySem.Challenge.pw_codemend_k24_what_is_apart.main.body.getD i (.Pass ⟨0, 0, 0, 0⟩)
abbrev s_are_apart : Stmt := top 12
abbrev s_part_of : Stmt := top 13
abbrev s_have_common : Stmt := top 14
abbrev s_has_words_of : Stmt := top 15
abbrev s_is_at_or_above : Stmt := top 16
abbrev s_law_label : Stmt := top 18
abbrev s_law_word : Stmt := top 19
abbrev s_law_words : Stmt := top 20
abbrev s_law_nodes : Stmt := top 21
abbrev s_law_place : Stmt := top 22
abbrev s_law_change : Stmt := top 23
abbrev s_law_made : Stmt := top 24
abbrev s_law_goal : Stmt := top 25
abbrev s_law_touches : Stmt := top 26
abbrev s_law_apart : Stmt := top 27
abbrev s_law : Stmt := top 28
abbrev s_Swap_init : Stmt := inClass (top 3) 0
abbrev s_Read_init : Stmt := inClass (top 4) 0
abbrev s_PutIn_init : Stmt := inClass (top 5) 0
abbrev s_LeaveOut_init : Stmt := inClass (top 6) 0
abbrev s_Anew_init : Stmt := inClass (top 7) 0
/-! ### promises -/
/-- the classes -/
structure Cs where
  Swap : Addr
  Read : Addr
  PutIn : Addr
  LeaveOut : Addr
  Anew : Addr
structure CF (K : PySem.W.Frag) (T : Cs) : Prop where
  iS : InsT K T.Swap
  iR : InsT K T.Read
  iP : InsT K T.PutIn
  iL : InsT K T.LeaveOut
  iA : InsT K T.Anew
  nS1 : NoAttr K T.Swap "place"
  nS2 : NoAttr K T.Swap "old"
  nS3 : NoAttr K T.Swap "new"
  nR1 : NoAttr K T.Read "place"
  nR2 : NoAttr K T.Read "words"
  nP1 : NoAttr K T.PutIn "place"
  nP2 : NoAttr K T.PutIn "node"
  nL1 : NoAttr K T.LeaveOut "place"
  nA1 : NoAttr K T.Anew "place"
  kSP : PySem.W.kitOne K (.ref T.Swap) (.ref T.PutIn) = some false
  kSL : PySem.W.kitOne K (.ref T.Swap) (.ref T.LeaveOut) = some false
  kSA : PySem.W.kitOne K (.ref T.Swap) (.ref T.Anew) = some false
  kRP : PySem.W.kitOne K (.ref T.Read) (.ref T.PutIn) = some false
  kRL : PySem.W.kitOne K (.ref T.Read) (.ref T.LeaveOut) = some false
  kRA : PySem.W.kitOne K (.ref T.Read) (.ref T.Anew) = some false
  kPP : PySem.W.kitOne K (.ref T.PutIn) (.ref T.PutIn) = some true
  kLP : PySem.W.kitOne K (.ref T.LeaveOut) (.ref T.PutIn) = some false
  kLL : PySem.W.kitOne K (.ref T.LeaveOut) (.ref T.LeaveOut) = some true
  kAP : PySem.W.kitOne K (.ref T.Anew) (.ref T.PutIn) = some false
  kAL : PySem.W.kitOne K (.ref T.Anew) (.ref T.LeaveOut) = some false
  kAA : PySem.W.kitOne K (.ref T.Anew) (.ref T.Anew) = some true
/-- a drawn change -/
inductive Ch where
  | swap (p o n : Pl) | read (p w : Pl) | put (p : Pl) (l : List Nat) (r : List D) | out (p : Pl) | anew (p : Pl)
def tupD : Ch → D
  | .swap p o n => .tup [.str [115, 119, 97, 112], plc p, plc o, plc n]
  | .read p w => .tup [.str [114, 101, 97, 100], plc p, plc w]
  | .put p l r => .tup [.str [112, 117, 116], plc p, .tup (.str l :: r)]
  | .out p => .tup [.str [111, 117, 116], plc p]
  | .anew p => .tup [.str [97, 110, 101, 119], plc p]
def objD (T : Cs) : Ch → D
  | .swap p o n => .obj T.Swap [("place", plc p), ("old", plc o), ("new", plc n)]
  | .read p w => .obj T.Read [("place", plc p), ("words", plc w)]
  | .put p l r => .obj T.PutIn [("place", plc p), ("node", .tup (.str l :: r))]
  | .out p => .obj T.LeaveOut [("place", plc p)]
  | .anew p => .obj T.Anew [("place", plc p)]
def placeOf : Ch → Pl
  | .swap p _ _ => p
  | .read p _ => p
  | .put p _ _ => p
  | .out p => p
  | .anew p => p
def kindOf : Ch → Knd
  | .swap _ _ _ => .W
  | .read _ _ => .W
  | .put _ _ _ => .F
  | .out _ => .F
  | .anew _ => .B
def goalOf : Ch → Pl
  | .swap p _ _ => p
  | .read p _ => p
  | .put p l _ => p ++ [l]
  | .out p => p
  | .anew p => p
def kndT : Knd → List Nat
  | .W => [119, 111, 114, 100, 115]
  | .F => [102, 114, 111, 109, 32, 111, 110]
  | .B => [98, 101, 110, 101, 97, 116, 104]
def part (k : Knd) (p : Pl) : D := .tup [.str (kndT k), plc p]
def GD (es : List (D × D)) : Prop := es ≠ [] ∧ es.length ≤ 64 ∧ ∀ q ∈ es, ∃ p ws : Pl, q = (plc p, plc ws) ∧ p.length ≤ 8 ∧ ws.length ≤ 4
def sp_law_label : Sp' := fun ds Q => ∃ c : Int, ds = [.int c] ∧ ∀ l, Q (.val (.str l))
def sp_law_word : Sp' := fun ds Q => ∃ c : Int, ds = [.int c] ∧ ∀ l, Q (.val (.str l))
def sp_law_words : Sp' := fun ds Q => ∃ c : Int, ds = [.int c] ∧ ∀ ws : Pl, ws.length ≤ 4 → Q (.val (plc ws))
def sp_law_nodes : Sp' := fun ds Q => ∃ ns : List Int, ds = [.lst (ns.map .int)] ∧ ns.length ≤ 63 ∧ ∀ es, GD es → Q (.own (.dit es))
def sp_law_place : Sp' := fun ds Q => ∃ es c, ds = [.dit es, .int c] ∧ GD es ∧ ∀ p : Pl, p.length ≤ 9 → Q (.val (plc p))
def sp_law_change : Sp' := fun ds Q => ∃ es c m, ds = [.dit es, .int c, .int m] ∧ GD es ∧ ∀ ch, (placeOf ch).length ≤ 9 → Q (.val (tupD ch))
def sp_law_made (T : Cs) : Sp' := fun ds Q => ∃ ch, ds = [tupD ch] ∧ Q (.val (objD T ch))
def sp_part_of (T : Cs) : Sp' := fun ds Q => ∃ ch, ds = [objD T ch] ∧ (placeOf ch).length ≤ 9 ∧ Q (.val (part (kindOf ch) (goalOf ch)))
def sp_have_common : Sp' := fun ds Q => ∃ k1 p1 k2 p2, ds = [part k1 p1, part k2 p2] ∧ Q (.val (.bl (common k1 p1 k2 p2)))
def sp_has_words_of : Sp' := fun ds Q => ∃ k p q, ds = [part k p, plc q] ∧ Q (.val (.bl (hasWords k p q)))
def sp_is_at_or_above : Sp' := fun ds Q => ∃ p q, ds = [plc p, plc q] ∧ Q (.val (.bl (above p q)))
def sp_are_apart (T : Cs) : Sp' := fun ds Q => ∃ c1 c2, ds = [objD T c1, objD T c2] ∧ (placeOf c1).length ≤ 9 ∧ (placeOf c2).length ≤ 9 ∧ Q (.val (.bl (!common (kindOf c1) (goalOf c1) (kindOf c2) (goalOf c2))))
def sp_law_goal : Sp' := fun ds Q => ∃ ch, ds = [tupD ch] ∧ (placeOf ch).length ≤ 9 ∧ Q (.val (plc (goalOf ch)))
def sp_law_touches : Sp' := fun ds Q => ∃ ch p lab, ds = [tupD ch, plc p, .bl lab] ∧ (placeOf ch).length ≤ 9 ∧ Q (.val (.bl (touches (kindOf ch) (goalOf ch) p lab)))
def sp_law_apart : Sp' := fun ds Q => ∃ c1 c2, ds = [tupD c1, tupD c2] ∧ (placeOf c1).length ≤ 9 ∧ (placeOf c2).length ≤ 9 ∧ Q (.val (.bl (lawApart (kindOf c1) (goalOf c1) (kindOf c2) (goalOf c2))))
def sp_law : Sp' := spLaw
instance : MSp sp_law_label := ⟨fun _ _ _ h ⟨c, e, q⟩ => ⟨c, e, fun l => h _ (q l)⟩⟩
instance : MSp sp_law_word := ⟨fun _ _ _ h ⟨c, e, q⟩ => ⟨c, e, fun l => h _ (q l)⟩⟩
instance : MSp sp_law_words := ⟨fun _ _ _ h ⟨c, e, q⟩ => ⟨c, e, fun l z => h _ (q l z)⟩⟩
instance : MSp sp_law_nodes := ⟨fun _ _ _ h ⟨c, e, z, q⟩ => ⟨c, e, z, fun l z => h _ (q l z)⟩⟩
instance : MSp sp_law_place := ⟨fun _ _ _ h ⟨c, d, e, z, q⟩ => ⟨c, d, e, z, fun l z => h _ (q l z)⟩⟩
instance : MSp sp_law_change := ⟨fun _ _ _ h ⟨c, d, f, e, z, q⟩ => ⟨c, d, f, e, z, fun l z => h _ (q l z)⟩⟩
instance {T : Cs} : MSp (sp_law_made T) := ⟨fun _ _ _ h ⟨c, e, q⟩ => ⟨c, e, h _ q⟩⟩
instance {T : Cs} : MSp (sp_part_of T) := ⟨fun _ _ _ h ⟨c, e, z, q⟩ => ⟨c, e, z, h _ q⟩⟩
instance : MSp sp_have_common := ⟨fun _ _ _ h ⟨a, b, c, d, e, q⟩ => ⟨a, b, c, d, e, h _ q⟩⟩
instance : MSp sp_has_words_of := ⟨fun _ _ _ h ⟨a, b, c, e, q⟩ => ⟨a, b, c, e, h _ q⟩⟩
instance : MSp sp_is_at_or_above := ⟨fun _ _ _ h ⟨a, b, e, q⟩ => ⟨a, b, e, h _ q⟩⟩
instance {T : Cs} : MSp (sp_are_apart T) := ⟨fun _ _ _ h ⟨a, b, e, x, y, q⟩ => ⟨a, b, e, x, y, h _ q⟩⟩
instance : MSp sp_law_goal := ⟨fun _ _ _ h ⟨a, e, x, q⟩ => ⟨a, e, x, h _ q⟩⟩
instance : MSp sp_law_touches := ⟨fun _ _ _ h ⟨a, b, c, e, x, q⟩ => ⟨a, b, c, e, x, h _ q⟩⟩
instance : MSp sp_law_apart := ⟨fun _ _ _ h ⟨a, b, e, x, y, q⟩ => ⟨a, b, e, x, y, h _ q⟩⟩
theorem small {n : Nat} (h : n ≤ 1000) : n ≤ sizeLine := Nat.le_of_lt (small1000 h)
theorem at_mem {α : Type} (xs : List α) {i : Int} (h0 : 0 ≤ i) (h1 : i < xs.length) : ∃ d, atI xs i = some d ∧ d ∈ xs := by
  obtain ⟨n, rfl⟩ := Int.eq_ofNat_of_zero_le h0
  have hn : n < xs.length := by omega
  exact ⟨xs[n], atI_nat (List.getElem?_eq_getElem hn), List.getElem_mem hn⟩
@[simp] theorem part_eq (k k' : Knd) (p p' : Pl) : part k p = part k' p' ↔ k = k' ∧ p = p' := by
  constructor
  · intro h
    unfold part at h
    injection h with h
    injection h with h1 h2
    injection h2 with h2 _
    refine ⟨?_, plc_inj h2⟩
    injection h1 with h1
    cases k <;> cases k' <;> first | rfl | (exact absurd h1 (by decide))
  · rintro ⟨rfl, rfl⟩
    rfl
@[simp] theorem part_0 (k : Knd) (p : Pl) (Q : D → Prop) : rIxA (part k p) (.int 0) Q ↔ Q (.str (kndT k)) := by simp [part]
@[simp] theorem part_1 (k : Knd) (p : Pl) (Q : D → Prop) : rIxA (part k p) (.int 1) Q ↔ Q (plc p) := by simp [part]
@[simp] theorem ex3' {α β γ : Type} {x : α} {y : β} {z : γ} {P : α → β → γ → Prop} : (∃ a b c, ((x = a ∧ y = b) ∧ z = c) ∧ P a b c) ↔ P x y z := ⟨fun ⟨_, _, _, ⟨⟨e1, e2⟩, e3⟩, h⟩ => e1 ▸ e2 ▸ e3 ▸ h, fun h => ⟨x, y, z, ⟨⟨rfl, rfl⟩, rfl⟩, h⟩⟩
@[simp] theorem ex4' {α β γ δ : Type} {x : α} {y : β} {z : γ} {u : δ} {P : α → β → γ → δ → Prop} : (∃ a b c d, ((x = a ∧ y = b) ∧ z = c ∧ u = d) ∧ P a b c d) ↔ P x y z u := ⟨fun ⟨_, _, _, _, ⟨⟨e1, e2⟩, e3, e4⟩, h⟩ => e1 ▸ e2 ▸ e3 ▸ e4 ▸ h, fun h => ⟨x, y, z, u, ⟨⟨rfl, rfl⟩, rfl, rfl⟩, h⟩⟩
@[simp] theorem sz1 : 1 ≤ sizeLine := small (by decide)
@[simp] theorem sz2 : 2 ≤ sizeLine := small (by decide)
@[simp] theorem sz3 : 3 ≤ sizeLine := small (by decide)
@[simp] theorem sz4 : 4 ≤ sizeLine := small (by decide)
@[simp] theorem sz5 : 5 ≤ sizeLine := small (by decide)
@[simp] theorem sz8 : 8 ≤ sizeLine := small (by decide)
@[simp] theorem look_node (x y : D) : List.lookup ("node" : Str) [(("place" : Str), x), (("node" : Str), y)] = some y := by
  have h : (("node" : Str) == "place") = false := by decide +kernel
  simp [List.lookup, h]
theorem tw {Q : Res → Prop} {g p : Pl} {lab : Bool} (h : Q (.val (.bl (touches .W g p lab)))) : (¬p = g ∧ Q (.val (.bl false))) ∨ (p = g ∧ ((lab = false ∧ Q (.val (.bl true))) ∨ (lab = true ∧ Q (.val (.bl false))))) := by
  by_cases e : p = g
  · cases lab
    · exact .inr ⟨e, .inl ⟨rfl, by simpa [touches, e] using h⟩⟩
    · exact .inr ⟨e, .inr ⟨rfl, by simpa [touches, e] using h⟩⟩
  · exact .inl ⟨e, by simpa [touches, e] using h⟩
theorem tf {Q : Res → Prop} {g p : Pl} {lab : Bool} (h : Q (.val (.bl (touches .F g p lab)))) : (p.length < g.length ∧ Q (.val (.bl false))) ∨ (g.length ≤ p.length ∧ Q (.val (.bl (decide (cutD p none (some (g.length : Int)) = g))))) := by
  rw [cutD_to]
  by_cases e : g.length ≤ p.length
  · exact .inr ⟨e, by simpa [touches, e] using h⟩
  · exact .inl ⟨by omega, by simpa [touches, e] using h⟩
theorem tb {Q : Res → Prop} {g p : Pl} {lab : Bool} (h : Q (.val (.bl (touches .B g p lab)))) : (¬(p.length : Int) = g.length ∧ ((p.length < g.length ∧ Q (.val (.bl false))) ∨ (g.length ≤ p.length ∧ Q (.val (.bl (decide (cutD p none (some (g.length : Int)) = g))))))) ∨ ((p.length : Int) = g.length ∧ Q (.val (.bl false))) := by
  by_cases e : p.length = g.length
  · exact .inr ⟨by omega, by simpa [touches, e] using h⟩
  · refine .inl ⟨by omega, tf (lab := lab) ?_⟩
    have z : touches .B g p lab = touches .F g p lab := by simp [touches, e]
    rw [← z]
    exact h
section
variable {P : Program} {w : World} {K : PySem.W.Frag} {mg : Str → Option Value} {base : Heap} {T : Cs}
theorem sc_is_at_or_above : FnScope ["place", "lower"] ["place", "lower"] (defScope s_is_at_or_above) := ⟨rfl, rfl, rfl, by decide +kernel, rfl, by decide +kernel, by decide +kernel⟩
theorem ok_is_at_or_above (d : Df K mg "is_at_or_above" s_is_at_or_above ["place", "lower"]) (z_len : mg "len" = none) : Fn P w K mg base 1 "is_at_or_above" ["place", "lower"] sp_is_at_or_above := by
  refine d.ok sc_is_at_or_above (fun ds Q h => ?_) (fun f cdv A outer s H E hr ds Q h => ⟨_, (pss_one' (ps_ret' (pe_cmp' (o_eqD (hu100 hr)) (pe_sl' s_A (pv' 1) pb_no (pb_at (pe_callB' c_lenA z_len PySem.boot_len (pa_cons' (pv' 0) pa_nil')))) (pv' 0)))), ?_⟩)
  · obtain ⟨p, q, rfl, _⟩ := h
    rfl
  obtain ⟨p, q, rfl, hq⟩ := h
  simp [tSeq', tRet', tIfS', tAsg', gName', tVar', tC', tFrz, tOp', tB', tNot', tAnd', tOr', tAndV', tOrV', tNotV', tIf', tNil', tCons', tTup', tLst', tCB', tBM', tSl', tNoB', tB1', tChain', tFor', iSeq', iRng1', iRng2', iRng3', tComp', tCall', tYes, tNext', tDict1, tFld', tMake', tGet2', tLook, tLookT, tApp', tDPutT, tAsgO', tRetV', tDispT, tCBO', lookΓ, thaw, iKeys', tPop', tDrop']
  rw [cutD_to]
  exact hq
theorem sc_has_words_of : FnScope ["part", "place"] ["part", "place"] (defScope s_has_words_of) := ⟨rfl, rfl, rfl, by decide +kernel, rfl, by decide +kernel, by decide +kernel⟩
theorem ok_has_words_of (d : Df K mg "has_words_of" s_has_words_of ["part", "place"]) (G_is_at_or_above : Fn P w K mg base 1 "is_at_or_above" ["place", "lower"] sp_is_at_or_above) {t_FROM_ON : Tok} (g_FROM_ON : mg "FROM_ON" = some (.str (st [102, 114, 111, 109, 32, 111, 110]) t_FROM_ON)) {t_WORDS : Tok} (g_WORDS : mg "WORDS" = some (.str (st [119, 111, 114, 100, 115]) t_WORDS)) : Fn P w K mg base 2 "has_words_of" ["part", "place"] sp_has_words_of := by
  refine d.ok sc_has_words_of (fun ds Q h => ?_) (fun f cdv A outer s H E hr ds Q h => ⟨_, (pss_cons' (ps_if' (pt_cmp' (o_eqD (hu100 hr)) (pe_ix' (i_A (hu_of hr)) (pv' 0) pe_int') (pe_gs' g_WORDS)) (pss_one' (ps_ret' (pe_cmp' (o_eqD (hu100 hr)) (pe_ix' (i_A (hu_of hr)) (pv' 0) pe_int') (pv' 1)))) pss_nil')
    (pss_cons' (ps_if' (pt_cmp' (o_eqD (hu100 hr)) (pe_ix' (i_A (hu_of hr)) (pv' 0) pe_int') (pe_gs' g_FROM_ON)) (pss_one' (ps_ret' (pe_fn G_is_at_or_above (hr.mono (by decide)) (pa_cons' (pe_ix' (i_A (hu_of hr)) (pv' 0) pe_int') (pa_cons' (pv' 1) pa_nil'))))) pss_nil')
    (pss_one' (ps_ret' (pe_and' (pe_cmp' (o_neD (hu100 hr)) (pe_ix' (i_A (hu_of hr)) (pv' 0) pe_int') (pv' 1)) (pe_one' (pe_fn G_is_at_or_above (hr.mono (by decide)) (pa_cons' (pe_ix' (i_A (hu_of hr)) (pv' 0) pe_int') (pa_cons' (pv' 1) pa_nil'))))))))), ?_⟩)
  · obtain ⟨k, p, q, rfl, _⟩ := h
    rfl
  obtain ⟨k, p, q, rfl, hq⟩ := h
  simp [tSeq', tRet', tIfS', tAsg', gName', tVar', tC', tFrz, tOp', tB', tNot', tAnd', tOr', tAndV', tOrV', tNotV', tIf', tNil', tCons', tTup', tLst', tCB', tBM', tSl', tNoB', tB1', tChain', tFor', iSeq', iRng1', iRng2', iRng3', tComp', tCall', tYes, tNext', tDict1, tFld', tMake', tGet2', tLook, tLookT, tApp', tDPutT, tAsgO', tRetV', tDispT, tCBO', lookΓ, thaw, iKeys', tPop', tDrop', sp_is_at_or_above]
  cases k <;> simp [kndT]
  · exact hq
  · exact hq
  · by_cases e : p = q
    · exact .inl ⟨e, by simpa [hasWords, e] using hq⟩
    · exact .inr ⟨e, by simpa [hasWords, e] using hq⟩
theorem sc_have_common : FnScope ["one", "other"] ["one", "other"] (defScope s_have_common) := ⟨rfl, rfl, rfl, by decide +kernel, rfl, by decide +kernel, by decide +kernel⟩
theorem ok_have_common (d : Df K mg "have_common" s_have_common ["one", "other"]) (G_has_words_of : Fn P w K mg base 2 "has_words_of" ["part", "place"] sp_has_words_of) (G_is_at_or_above : Fn P w K mg base 1 "is_at_or_above" ["place", "lower"] sp_is_at_or_above) {t_WORDS : Tok} (g_WORDS : mg "WORDS" = some (.str (st [119, 111, 114, 100, 115]) t_WORDS)) : Fn P w K mg base 3 "have_common" ["one", "other"] sp_have_common := by
  refine d.ok sc_have_common (fun ds Q h => ?_) (fun f cdv A outer s H E hr ds Q h => ⟨_, (pss_cons' (ps_if' (pt_cmp' (o_eqD (hu100 hr)) (pe_ix' (i_A (hu_of hr)) (pv' 0) pe_int') (pe_gs' g_WORDS)) (pss_one' (ps_ret' (pe_fn G_has_words_of (hr.mono (by decide)) (pa_cons' (pv' 1) (pa_cons' (pe_ix' (i_A (hu_of hr)) (pv' 0) pe_int') pa_nil'))))) pss_nil')
    (pss_cons' (ps_if' (pt_cmp' (o_eqD (hu100 hr)) (pe_ix' (i_A (hu_of hr)) (pv' 1) pe_int') (pe_gs' g_WORDS)) (pss_one' (ps_ret' (pe_fn G_has_words_of (hr.mono (by decide)) (pa_cons' (pv' 0) (pa_cons' (pe_ix' (i_A (hu_of hr)) (pv' 1) pe_int') pa_nil'))))) pss_nil')
    (pss_one' (ps_ret' (pe_or' (pe_fn G_is_at_or_above (hr.mono (by decide)) (pa_cons' (pe_ix' (i_A (hu_of hr)) (pv' 0) pe_int') (pa_cons' (pe_ix' (i_A (hu_of hr)) (pv' 1) pe_int') pa_nil'))) (pe_one' (pe_fn G_is_at_or_above (hr.mono (by decide)) (pa_cons' (pe_ix' (i_A (hu_of hr)) (pv' 1) pe_int') (pa_cons' (pe_ix' (i_A (hu_of hr)) (pv' 0) pe_int') pa_nil'))))))))), ?_⟩)
  · obtain ⟨k1, p1, k2, p2, rfl, _⟩ := h
    rfl
  obtain ⟨k1, p1, k2, p2, rfl, hq⟩ := h
  simp [tSeq', tRet', tIfS', tAsg', gName', tVar', tC', tFrz, tOp', tB', tNot', tAnd', tOr', tAndV', tOrV', tNotV', tIf', tNil', tCons', tTup', tLst', tCB', tBM', tSl', tNoB', tB1', tChain', tFor', iSeq', iRng1', iRng2', iRng3', tComp', tCall', tYes, tNext', tDict1, tFld', tMake', tGet2', tLook, tLookT, tApp', tDPutT, tAsgO', tRetV', tDispT, tCBO', lookΓ, thaw, iKeys', tPop', tDrop', sp_is_at_or_above, sp_has_words_of]
  have two : ∀ a b : Bool, Q (.val (.bl (a || b))) → if a = true then Q (.val (.bl true)) else Q (.val (.bl b)) := fun a b z => by cases a <;> simpa using z
  cases k1 <;> cases k2 <;> simp [kndT] <;> first | exact hq | exact two _ _ hq
theorem sc_part_of : FnScope ["change"] ["change"] (defScope s_part_of) := ⟨rfl, rfl, rfl, by decide +kernel, rfl, by decide +kernel, by decide +kernel⟩
theorem ok_part_of (d : Df K mg "part_of" s_part_of ["change"]) (cf : CF K T) (z_isinstance : mg "isinstance" = none) {t_BENEATH : Tok} (g_BENEATH : mg "BENEATH" = some (.str (st [98, 101, 110, 101, 97, 116, 104]) t_BENEATH)) {t_FROM_ON : Tok} (g_FROM_ON : mg "FROM_ON" = some (.str (st [102, 114, 111, 109, 32, 111, 110]) t_FROM_ON)) {t_WORDS : Tok} (g_WORDS : mg "WORDS" = some (.str (st [119, 111, 114, 100, 115]) t_WORDS)) (m_Anew : mg "Anew" = some (.ref T.Anew)) (m_LeaveOut : mg "LeaveOut" = some (.ref T.LeaveOut)) (m_PutIn : mg "PutIn" = some (.ref T.PutIn)) : Fn P w K mg base 1 "part_of" ["change"] (sp_part_of T) := by
  refine d.ok sc_part_of (fun ds Q h => ?_) (fun f cdv A outer s H E hr ds Q h => ⟨_, (pss_cons' (ps_if' (pt_val' (pe_callB' c_isiA z_isinstance PyProof.Rows.boot_isinstance (pa_cons' (pv' 0) (pa_cons' (pe_cls' m_PutIn) pa_nil')))) (pss_one' (ps_ret' (pe_tup' (pa_cons' (pe_gs' g_FROM_ON) (pa_cons' (pe_op' o_AddA (pe_fld' (pv' 0)) (pe_tup' (pa_cons' (pe_ix' (i_A (hu_of hr)) (pe_fld' (pv' 0)) pe_int') pa_nil'))) pa_nil'))))) pss_nil')
    (pss_cons' (ps_if' (pt_val' (pe_callB' c_isiA z_isinstance PyProof.Rows.boot_isinstance (pa_cons' (pv' 0) (pa_cons' (pe_cls' m_LeaveOut) pa_nil')))) (pss_one' (ps_ret' (pe_tup' (pa_cons' (pe_gs' g_FROM_ON) (pa_cons' (pe_fld' (pv' 0)) pa_nil'))))) pss_nil')
    (pss_cons' (ps_if' (pt_val' (pe_callB' c_isiA z_isinstance PyProof.Rows.boot_isinstance (pa_cons' (pv' 0) (pa_cons' (pe_cls' m_Anew) pa_nil')))) (pss_one' (ps_ret' (pe_tup' (pa_cons' (pe_gs' g_BENEATH) (pa_cons' (pe_fld' (pv' 0)) pa_nil'))))) pss_nil')
    (pss_one' (ps_ret' (pe_tup' (pa_cons' (pe_gs' g_WORDS) (pa_cons' (pe_fld' (pv' 0)) pa_nil')))))))), ?_⟩)
  · obtain ⟨ch, rfl, _⟩ := h
    rfl
  obtain ⟨ch, rfl, hl, hq⟩ := h
  cases ch <;> simp [tSeq', tRet', tIfS', tAsg', gName', tVar', tC', tFrz, tOp', tB', tNot', tAnd', tOr', tAndV', tOrV', tNotV', tIf', tNil', tCons', tTup', tLst', tCB', tBM', tSl', tNoB', tB1', tChain', tFor', iSeq', iRng1', iRng2', iRng3', tComp', tCall', tYes, tNext', tDict1, tFld', tMake', tGet2', tLook, tLookT, tApp', tDPutT, tAsgO', tRetV', tDispT, tCBO', lookΓ, thaw, iKeys', tPop', tDrop', objD, cf.iS, cf.iS.cl, cf.iR, cf.iR.cl, cf.iP, cf.iP.cl, cf.iL, cf.iL.cl, cf.iA, cf.iA.cl, cf.nS1, cf.nR1, cf.nP1, cf.nP2, cf.nL1, cf.nA1, cf.kSP, cf.kSL, cf.kSA, cf.kRP, cf.kRL, cf.kRA, cf.kPP, cf.kLP, cf.kLL, cf.kAP, cf.kAL, cf.kAA]
  · exact hq
  · exact hq
  · exact ⟨small (by have := hl; simp [placeOf] at this; omega), hq⟩
  · exact hq
  · exact hq
theorem sc_are_apart : FnScope ["one", "other"] ["one", "other"] (defScope s_are_apart) := ⟨rfl, rfl, rfl, by decide +kernel, rfl, by decide +kernel, by decide +kernel⟩
theorem ok_are_apart (d : Df K mg "are_apart" s_are_apart ["one", "other"]) (cf : CF K T) (G_part_of : Fn P w K mg base 1 "part_of" ["change"] (sp_part_of T)) (G_have_common : Fn P w K mg base 3 "have_common" ["one", "other"] sp_have_common) : Fn P w K mg base 4 "are_apart" ["one", "other"] (sp_are_apart T) := by
  refine d.ok sc_are_apart (fun ds Q h => ?_) (fun f cdv A outer s H E hr ds Q h => ⟨_, (pss_one' (ps_ret' (pe_not' (pe_fn G_have_common (hr.mono (by decide)) (pa_cons' (pe_fn G_part_of (hr.mono (by decide)) (pa_cons' (pv' 0) pa_nil')) (pa_cons' (pe_fn G_part_of (hr.mono (by decide)) (pa_cons' (pv' 1) pa_nil')) pa_nil')))))), ?_⟩)
  · obtain ⟨c1, c2, rfl, _⟩ := h
    rfl
  obtain ⟨c1, c2, rfl, h1, h2, hq⟩ := h
  simp [tSeq', tRet', tIfS', tAsg', gName', tVar', tC', tFrz, tOp', tB', tNot', tAnd', tOr', tAndV', tOrV', tNotV', tIf', tNil', tCons', tTup', tLst', tCB', tBM', tSl', tNoB', tB1', tChain', tFor', iSeq', iRng1', iRng2', iRng3', tComp', tCall', tYes, tNext', tDict1, tFld', tMake', tGet2', tLook, tLookT, tApp', tDPutT, tAsgO', tRetV', tDispT, tCBO', lookΓ, thaw, iKeys', tPop', tDrop', sp_part_of, sp_have_common]
  refine ⟨c1, rfl, h1, c2, rfl, h2, hq⟩
theorem sc_law_goal : FnScope ["_law_one"] ["_law_one"] (defScope s_law_goal) := ⟨rfl, rfl, rfl, by decide +kernel, rfl, by decide +kernel, by decide +kernel⟩
theorem ok_law_goal (d : Df K mg "_law_goal" s_law_goal ["_law_one"]) : Fn P w K mg base 1 "_law_goal" ["_law_one"] sp_law_goal := by
  refine d.ok sc_law_goal (fun ds Q h => ?_) (fun f cdv A outer s H E hr ds Q h => ⟨_, (pss_cons' (ps_if' (pt_cmp' (o_eqD (hu100 hr)) (pe_ix' (i_A (hu_of hr)) (pv' 0) pe_int') (pe_str' [112, 117, 116])) (pss_one' (ps_ret' (pe_op' o_AddA (pe_ix' (i_A (hu_of hr)) (pv' 0) pe_int') (pe_tup' (pa_cons' (pe_ix' (i_A (hu_of hr)) (pe_ix' (i_A (hu_of hr)) (pv' 0) pe_int') pe_int') pa_nil'))))) pss_nil')
    (pss_one' (ps_ret' (pe_ix' (i_A (hu_of hr)) (pv' 0) pe_int')))), ?_⟩)
  · obtain ⟨ch, rfl, _⟩ := h
    rfl
  obtain ⟨ch, rfl, hl, hq⟩ := h
  cases ch <;> simp [tSeq', tRet', tIfS', tAsg', gName', tVar', tC', tFrz, tOp', tB', tNot', tAnd', tOr', tAndV', tOrV', tNotV', tIf', tNil', tCons', tTup', tLst', tCB', tBM', tSl', tNoB', tB1', tChain', tFor', iSeq', iRng1', iRng2', iRng3', tComp', tCall', tYes, tNext', tDict1, tFld', tMake', tGet2', tLook, tLookT, tApp', tDPutT, tAsgO', tRetV', tDispT, tCBO', lookΓ, thaw, iKeys', tPop', tDrop', tupD]
  · exact hq
  · exact hq
  · exact ⟨small (by have := hl; simp [placeOf] at this; omega), hq⟩
  · exact hq
  · exact hq
theorem sc_law_touches : FnScope ["_law_one", "_law_place_here", "_law_label_here", "_law_goal_here"] ["_law_one", "_law_place_here", "_law_label_here"] (defScope s_law_touches) := ⟨rfl, rfl, rfl, by decide +kernel, rfl, by decide +kernel, by decide +kernel⟩
theorem ok_law_touches (d : Df K mg "_law_touches" s_law_touches ["_law_one", "_law_place_here", "_law_label_here"]) (G_law_goal : Fn P w K mg base 1 "_law_goal" ["_law_one"] sp_law_goal) (z_len : mg "len" = none) : Fn P w K mg base 2 "_law_touches" ["_law_one", "_law_place_here", "_law_label_here"] sp_law_touches := by
  refine d.ok sc_law_touches (fun ds Q h => ?_) (fun f cdv A outer s H E hr ds Q h => ⟨_, (pss_cons' (ps_set' 3 sc_law_touches.nd (pe_fn G_law_goal (hr.mono (by decide)) (pa_cons' (pv' 0) pa_nil')))
    (pss_cons' (ps_if' (pt_cmp' (o_InA (hu_of hr)) (pe_ix' (i_A (hu_of hr)) (pv' 0) pe_int') (pe_tup' (pa_cons' (pe_str' [115, 119, 97, 112]) (pa_cons' (pe_str' [114, 101, 97, 100]) pa_nil')))) (pss_one' (ps_ret' (pe_and' (pe_cmp' (o_eqD (hu100 hr)) (pv' 1) (pv' 3)) (pe_one' (pe_not' (pv' 2)))))) pss_nil')
    (pss_cons' (ps_if' (PW'.pt (pw_and' (pt_cmp' (o_eqD (hu100 hr)) (pe_ix' (i_A (hu_of hr)) (pv' 0) pe_int') (pe_str' [97, 110, 101, 119])) (pw_and1' (pt_cmp' (o_eqD (hu100 hr)) (pe_callB' c_lenA z_len PySem.boot_len (pa_cons' (pv' 1) pa_nil')) (pe_callB' c_lenA z_len PySem.boot_len (pa_cons' (pv' 3) pa_nil')))))) (pss_one' (ps_ret' pe_bl')) pss_nil')
    (pss_one' (ps_ret' (pe_and' (pe_cmp' o_ge (pe_callB' c_lenA z_len PySem.boot_len (pa_cons' (pv' 1) pa_nil')) (pe_callB' c_lenA z_len PySem.boot_len (pa_cons' (pv' 3) pa_nil'))) (pe_one' (pe_cmp' (o_eqD (hu100 hr)) (pe_sl' s_A (pv' 1) pb_no (pb_at (pe_callB' c_lenA z_len PySem.boot_len (pa_cons' (pv' 3) pa_nil')))) (pv' 3))))))))), ?_⟩)
  · obtain ⟨ch, p, lab, rfl, _⟩ := h
    rfl
  obtain ⟨ch, p, lab, rfl, hl, hq⟩ := h
  simp [tSeq', tRet', tIfS', tAsg', gName', tVar', tC', tFrz, tOp', tB', tNot', tAnd', tOr', tAndV', tOrV', tNotV', tIf', tNil', tCons', tTup', tLst', tCB', tBM', tSl', tNoB', tB1', tChain', tFor', iSeq', iRng1', iRng2', iRng3', tComp', tCall', tYes, tNext', tDict1, tFld', tMake', tGet2', tLook, tLookT, tApp', tDPutT, tAsgO', tRetV', tDispT, tCBO', lookΓ, thaw, iKeys', tPop', tDrop', sp_law_goal]
  refine ⟨ch, rfl, hl, ?_⟩
  cases ch <;> simp [tupD, plc_two] <;> refine rInA_strs _ _ ?_ <;> simp
  · exact tw hq
  · exact tw hq
  · exact tf hq
  · exact tf hq
  · exact tb hq
theorem sc_law_made : FnScope ["_law_one"] ["_law_one"] (defScope s_law_made) := ⟨rfl, rfl, rfl, by decide +kernel, rfl, by decide +kernel, by decide +kernel⟩
theorem ok_law_made (d : Df K mg "_law_made" s_law_made ["_law_one"]) (cf : CF K T) (M_Anew : Mak P w K mg base 1 "Anew" T.Anew ["place"]) (M_LeaveOut : Mak P w K mg base 1 "LeaveOut" T.LeaveOut ["place"]) (M_PutIn : Mak P w K mg base 1 "PutIn" T.PutIn ["place", "node"]) (M_Read : Mak P w K mg base 1 "Read" T.Read ["place", "words"]) (M_Swap : Mak P w K mg base 1 "Swap" T.Swap ["place", "old", "new"]) : Fn P w K mg base 3 "_law_made" ["_law_one"] (sp_law_made T) := by
  refine d.ok sc_law_made (fun ds Q h => ?_) (fun f cdv A outer s H E hr ds Q h => ⟨_, (pss_cons' (ps_if' (pt_cmp' (o_eqD (hu100 hr)) (pe_ix' (i_A (hu_of hr)) (pv' 0) pe_int') (pe_str' [115, 119, 97, 112])) (pss_one' (ps_ret' (pe_make' M_Swap (hr.mono (by decide)) (pa_cons' (pe_ix' (i_A (hu_of hr)) (pv' 0) pe_int') (pa_cons' (pe_ix' (i_A (hu_of hr)) (pv' 0) pe_int') (pa_cons' (pe_ix' (i_A (hu_of hr)) (pv' 0) pe_int') pa_nil')))))) pss_nil')
    (pss_cons' (ps_if' (pt_cmp' (o_eqD (hu100 hr)) (pe_ix' (i_A (hu_of hr)) (pv' 0) pe_int') (pe_str' [114, 101, 97, 100])) (pss_one' (ps_ret' (pe_make' M_Read (hr.mono (by decide)) (pa_cons' (pe_ix' (i_A (hu_of hr)) (pv' 0) pe_int') (pa_cons' (pe_ix' (i_A (hu_of hr)) (pv' 0) pe_int') pa_nil'))))) pss_nil')
    (pss_cons' (ps_if' (pt_cmp' (o_eqD (hu100 hr)) (pe_ix' (i_A (hu_of hr)) (pv' 0) pe_int') (pe_str' [112, 117, 116])) (pss_one' (ps_ret' (pe_make' M_PutIn (hr.mono (by decide)) (pa_cons' (pe_ix' (i_A (hu_of hr)) (pv' 0) pe_int') (pa_cons' (pe_ix' (i_A (hu_of hr)) (pv' 0) pe_int') pa_nil'))))) pss_nil')
    (pss_cons' (ps_if' (pt_cmp' (o_eqD (hu100 hr)) (pe_ix' (i_A (hu_of hr)) (pv' 0) pe_int') (pe_str' [111, 117, 116])) (pss_one' (ps_ret' (pe_make' M_LeaveOut (hr.mono (by decide)) (pa_cons' (pe_ix' (i_A (hu_of hr)) (pv' 0) pe_int') pa_nil')))) pss_nil')
    (pss_one' (ps_ret' (pe_make' M_Anew (hr.mono (by decide)) (pa_cons' (pe_ix' (i_A (hu_of hr)) (pv' 0) pe_int') pa_nil')))))))), ?_⟩)
  · obtain ⟨ch, rfl, _⟩ := h
    rfl
  obtain ⟨ch, rfl, hq⟩ := h
  cases ch <;> simp [tSeq', tRet', tIfS', tAsg', gName', tVar', tC', tFrz, tOp', tB', tNot', tAnd', tOr', tAndV', tOrV', tNotV', tIf', tNil', tCons', tTup', tLst', tCB', tBM', tSl', tNoB', tB1', tChain', tFor', iSeq', iRng1', iRng2', iRng3', tComp', tCall', tYes, tNext', tDict1, tFld', tMake', tGet2', tLook, tLookT, tApp', tDPutT, tAsgO', tRetV', tDispT, tCBO', lookΓ, thaw, iKeys', tPop', tDrop', tupD] <;> exact hq
end

end K24

namespace K24
open PySem L2 Lb PL M24
section
variable {Q : Res → Prop} {c1 c2 : Ch}
abbrev bdy : TS' := tIfS' (tAnd' (tB' (tCall' sp_law_touches (tCons' (tVar' 0) (tCons' (tVar' 3) (tCons' (tVar' 4) tNil'))))) (tB' (tCall' sp_law_touches (tCons' (tVar' 1) (tCons' (tVar' 3) (tCons' (tVar' 4) tNil')))))) (tRet' (tC' (D.bl false))) tNext'
abbrev bth (c1 c2 : Ch) (p : Pl) (lab : Bool) : Bool := both (kindOf c1) (goalOf c1) (kindOf c2) (goalOf c2) p lab
theorem step {N : Ends'} (hN : N.rt = fun r _ => Q r) {p : Pl} {lab : Bool} {s2 : Slot} (h1 : (placeOf c1).length ≤ 9) (h2 : (placeOf c2).length ≤ 9)
    (h : if bth c1 c2 p lab = true then Q (.val (.bl false)) else N.nx [.val (tupD c1), .val (tupD c2), s2, .val (plc p), .val (.bl lab)]) : bdy N [.val (tupD c1), .val (tupD c2), s2, .val (plc p), .val (.bl lab)] := by
  simp [tSeq', tRet', tIfS', tAsg', gName', tVar', tC', tFrz, tOp', tB', tNot', tAnd', tOr', tAndV', tOrV', tNotV', tIf', tNil', tCons', tTup', tLst', tCB', tBM', tSl', tNoB', tB1', tChain', tFor', iSeq', iRng1', iRng2', iRng3', tComp', tCall', tYes, tNext', tDict1, tFld', tMake', tGet2', tLook, tLookT, tApp', tDPutT, tAsgO', tRetV', tDispT, tCBO', lookΓ, thaw, iKeys', tPop', tDrop']
  refine ⟨c1, p, lab, rfl, h1, ?_⟩
  unfold bth both at h
  cases e1 : touches (kindOf c1) (goalOf c1) p lab with
  | false =>
    rw [e1] at h
    simpa using h
  | true =>
    simp only [e1, Bool.true_and] at h
    simp
    refine ⟨c2, p, lab, rfl, h2, ?_⟩
    cases e2 : touches (kindOf c2) (goalOf c2) p lab with
    | false =>
      rw [e2] at h
      simpa using h
    | true =>
      rw [e2] at h
      simp only [if_true] at h
      simpa [hN] using h
theorem lpLab {N : Ends'} (hN : N.rt = fun r _ => Q r) {p : Pl} {s2 s4 : Slot} (h1 : (placeOf c1).length ≤ 9) (h2 : (placeOf c2).length ≤ 9)
    (h : if (bth c1 c2 p false || bth c1 c2 p true) = true then Q (.val (.bl false)) else N.nx [.val (tupD c1), .val (tupD c2), s2, .val (plc p), .val (.bl true)]) :
    ForD (gName' 4) bdy N [.bl false, .bl true] [.val (tupD c1), .val (tupD c2), s2, .val (plc p), s4] := by
  rw [forD_cons]
  show bdy _ [.val (tupD c1), .val (tupD c2), s2, .val (plc p), .val (.bl false)]
  refine step (Q := Q) (by exact hN) h1 h2 ?_
  cases e : bth c1 c2 p false with
  | true =>
    rw [e] at h
    simpa using h
  | false =>
    rw [e, Bool.false_or] at h
    rw [if_neg Bool.false_ne_true]
    show ForD _ _ _ _ _
    rw [forD_cons]
    show bdy _ [.val (tupD c1), .val (tupD c2), s2, .val (plc p), .val (.bl true)]
    refine step (Q := Q) (by exact hN) h1 h2 ?_
    cases e' : bth c1 c2 p true with
    | true =>
      rw [e'] at h
      simpa using h
    | false =>
      rw [e', if_neg Bool.false_ne_true] at h
      rw [if_neg Bool.false_ne_true]
      exact h
abbrev bdy3 : TS' := tFor' (iSeq' (tFrz (tLst' (tCons' (tC' (D.bl false)) (tCons' (tC' (D.bl true)) tNil'))))) (gName' 4) bdy
abbrev anyLab (c1 c2 : Ch) (p : Pl) : Bool := bth c1 c2 p false || bth c1 c2 p true
theorem step3 {N : Ends'} (hN : N.rt = fun r _ => Q r) {p : Pl} {s2 s4 : Slot} (h1 : (placeOf c1).length ≤ 9) (h2 : (placeOf c2).length ≤ 9)
    (h : if anyLab c1 c2 p = true then Q (.val (.bl false)) else N.nx [.val (tupD c1), .val (tupD c2), s2, .val (plc p), .val (.bl true)]) : bdy3 N [.val (tupD c1), .val (tupD c2), s2, .val (plc p), s4] := by
  refine ⟨sz2, [.bl false, .bl true], rfl, ?_⟩
  exact lpLab hN h1 h2 h
theorem lpPl {N : Ends'} (hN : N.rt = fun r _ => Q r) {p q : Pl} {s2 s3 s4 : Slot} (h1 : (placeOf c1).length ≤ 9) (h2 : (placeOf c2).length ≤ 9)
    (h : if (anyLab c1 c2 p || anyLab c1 c2 q) = true then Q (.val (.bl false)) else ∀ s3 s4, N.nx [.val (tupD c1), .val (tupD c2), s2, s3, s4]) :
    ForD (gName' 3) bdy3 N [plc p, plc q] [.val (tupD c1), .val (tupD c2), s2, s3, s4] := by
  rw [forD_cons]
  show bdy3 _ [.val (tupD c1), .val (tupD c2), s2, .val (plc p), s4]
  refine step3 (Q := Q) (by exact hN) h1 h2 ?_
  cases e : anyLab c1 c2 p with
  | true =>
    rw [e] at h
    simpa using h
  | false =>
    rw [e, Bool.false_or] at h
    rw [if_neg Bool.false_ne_true]
    show ForD _ _ _ _ _
    rw [forD_cons]
    show bdy3 _ [.val (tupD c1), .val (tupD c2), s2, .val (plc q), _]
    refine step3 (Q := Q) (by exact hN) h1 h2 ?_
    cases e' : anyLab c1 c2 q with
    | true =>
      rw [e'] at h
      simpa using h
    | false =>
      rw [e', if_neg Bool.false_ne_true] at h
      rw [if_neg Bool.false_ne_true]
      exact h _ _
abbrev bdy2 : TS' := tFor' (iSeq' (tFrz (tLst' (tCons' (tVar' 2) (tCons' (tOp' rAddA (tVar' 2) (tTup' (tCons' (tC' (D.str [49])) tNil'))) tNil'))))) (gName' 3) bdy3
theorem step2 {N : Ends'} (hN : N.rt = fun r _ => Q r) {g : Pl} {s3 s4 : Slot} (hg : g.length ≤ 10) (h1 : (placeOf c1).length ≤ 9) (h2 : (placeOf c2).length ≤ 9)
    (h : if (anyLab c1 c2 g || anyLab c1 c2 (g ++ [[49]])) = true then Q (.val (.bl false)) else ∀ s3 s4, N.nx [.val (tupD c1), .val (tupD c2), .val (plc g), s3, s4]) : bdy2 N [.val (tupD c1), .val (tupD c2), .val (plc g), s3, s4] := by
  simp [tSeq', tRet', tIfS', tAsg', gName', tVar', tC', tFrz, tOp', tB', tNot', tAnd', tOr', tAndV', tOrV', tNotV', tIf', tNil', tCons', tTup', tLst', tCB', tBM', tSl', tNoB', tB1', tChain', tFor', iSeq', iRng1', iRng2', iRng3', tComp', tCall', tYes, tNext', tDict1, tFld', tMake', tGet2', tLook, tLookT, tApp', tDPutT, tAsgO', tRetV', tDispT, tCBO', lookΓ, thaw, iKeys', tPop', tDrop']
  exact ⟨small (by omega), lpPl hN h1 h2 h⟩
theorem goal_len {c : Ch} (h : (placeOf c).length ≤ 9) : (goalOf c).length ≤ 10 := by
  cases c <;> simp only [placeOf, goalOf, List.length_append, List.length_cons, List.length_nil] at h ⊢ <;> omega
end
section
variable {P : Program} {w : World} {K : PySem.W.Frag} {mg : Str → Option Value} {base : Heap} {T : Cs}
theorem sc_law_apart : FnScope ["_law_one", "_law_other", "_law_goal_here", "_law_place_here", "_law_label_here"] ["_law_one", "_law_other"] (defScope s_law_apart) := ⟨rfl, rfl, rfl, by decide +kernel, rfl, by decide +kernel, by decide +kernel⟩
theorem ok_law_apart (d : Df K mg "_law_apart" s_law_apart ["_law_one", "_law_other"]) (G_law_goal : Fn P w K mg base 1 "_law_goal" ["_law_one"] sp_law_goal) (G_law_touches : Fn P w K mg base 2 "_law_touches" ["_law_one", "_law_place_here", "_law_label_here"] sp_law_touches) : Fn P w K mg base 3 "_law_apart" ["_law_one", "_law_other"] sp_law_apart := by
  refine d.ok sc_law_apart (fun ds Q h => ?_) (fun f cdv A outer s H E hr ds Q h => ⟨_, (pss_cons' (ps_for' (pi_seq' (pe_frz (po_lst (pa_cons' (pe_fn G_law_goal (hr.mono (by decide)) (pa_cons' (pv' 0) pa_nil')) (pa_cons' (pe_fn G_law_goal (hr.mono (by decide)) (pa_cons' (pv' 1) pa_nil')) pa_nil'))))) (pg_name' 2 sc_law_apart.nd)
      (pss_one' (ps_for' (pi_seq' (pe_frz (po_lst (pa_cons' (pv' 2) (pa_cons' (pe_op' o_AddA (pv' 2) (pe_tup' (pa_cons' (pe_str' [49]) pa_nil'))) pa_nil'))))) (pg_name' 3 sc_law_apart.nd)
      (pss_one' (ps_for' (pi_seq' (pe_frz (po_lst (pa_cons' pe_bl' (pa_cons' pe_bl' pa_nil'))))) (pg_name' 4 sc_law_apart.nd)
      (pss_one' (ps_if' (PW'.pt (pw_and' (pt_val' (pe_fn G_law_touches (hr.mono (by decide)) (pa_cons' (pv' 0) (pa_cons' (pv' 3) (pa_cons' (pv' 4) pa_nil'))))) (pw_and1' (pt_val' (pe_fn G_law_touches (hr.mono (by decide)) (pa_cons' (pv' 1) (pa_cons' (pv' 3) (pa_cons' (pv' 4) pa_nil')))))))) (pss_one' (ps_ret' pe_bl')) pss_nil')))))))
    (pss_one' (ps_ret' pe_bl'))), ?_⟩)
  · obtain ⟨c1, c2, rfl, _⟩ := h
    rfl
  obtain ⟨c1, c2, rfl, h1, h2, hq⟩ := h
  simp [tSeq', tRet', tIfS', tAsg', gName', tVar', tC', tFrz, tOp', tB', tNot', tAnd', tOr', tAndV', tOrV', tNotV', tIf', tNil', tCons', tTup', tLst', tCB', tBM', tSl', tNoB', tB1', tChain', tFor', iSeq', iRng1', iRng2', iRng3', tComp', tCall', tYes, tNext', tDict1, tFld', tMake', tGet2', tLook, tLookT, tApp', tDPutT, tAsgO', tRetV', tDispT, tCBO', lookΓ, thaw, iKeys', tPop', tDrop', sp_law_goal]
  refine ⟨c1, rfl, h1, c2, rfl, h2, ?_⟩
  show ForD (gName' 2) bdy2 _ _ _
  have hA : lawApart (kindOf c1) (goalOf c1) (kindOf c2) (goalOf c2) = !((anyLab c1 c2 (goalOf c1) || anyLab c1 c2 (goalOf c1 ++ [[49]])) || (anyLab c1 c2 (goalOf c2) || anyLab c1 c2 (goalOf c2 ++ [[49]]))) := by
    simp [lawApart, spots, Bool.or_assoc]
  rw [hA] at hq
  rw [forD_cons]
  show bdy2 _ [.val (tupD c1), .val (tupD c2), .val (plc (goalOf c1)), .emp, .emp]
  refine step2 (Q := Q) rfl (goal_len h1) h1 h2 ?_
  cases e : (anyLab c1 c2 (goalOf c1) || anyLab c1 c2 (goalOf c1 ++ [[49]])) with
  | true =>
    rw [e] at hq
    simpa using hq
  | false =>
    rw [e, Bool.false_or] at hq
    rw [if_neg Bool.false_ne_true]
    intro s3 s4
    show ForD _ _ _ _ _
    rw [forD_cons]
    show bdy2 _ [.val (tupD c1), .val (tupD c2), .val (plc (goalOf c2)), s3, s4]
    refine step2 (Q := Q) rfl (goal_len h2) h1 h2 ?_
    cases e' : (anyLab c1 c2 (goalOf c2) || anyLab c1 c2 (goalOf c2 ++ [[49]])) with
    | true =>
      rw [e'] at hq
      simpa using hq
    | false =>
      rw [e'] at hq
      rw [if_neg Bool.false_ne_true]
      intro s3 s4
      simpa [tSeq', tRet', tIfS', tAsg', gName', tVar', tC', tFrz, tOp', tB', tNot', tAnd', tOr', tAndV', tOrV', tNotV', tIf', tNil', tCons', tTup', tLst', tCB', tBM', tSl', tNoB', tB1', tChain', tFor', iSeq', iRng1', iRng2', iRng3', tComp', tCall', tYes, tNext', tDict1, tFld', tMake', tGet2', tLook, tLookT, tApp', tDPutT, tAsgO', tRetV', tDispT, tCBO', lookΓ, thaw, iKeys', tPop', tDrop'] using hq
end

end K24

namespace K24
open PySem L2 Lb PL M24
theorem numT_len {n : Int} (h0 : 0 ≤ n) (h1 : n < 10 ^ 10) : (numT n).length ≤ 10 := by
  have hl := PySem.W.KT.len_num h0 h1
  unfold numT
  rw [show (Str.ofString (toString n)).cps.toList.length = (Str.ofString (toString n)).length by simp [Str.length]]
  exact hl
theorem log_small {n : Int} (h0 : 0 ≤ n) (h1 : n < 10 ^ 10) : n.natAbs.log2 < 1920 := by
  refine Nat.lt_of_lt_of_le ?_ (by decide : 40 ≤ 1920)
  by_cases hz : n.natAbs = 0
  · rw [hz]; decide
  · exact (Nat.log2_lt hz).mpr (by have : n.natAbs < 10 ^ 10 := by omega
                                   have : 10 ^ 10 < 2 ^ 40 := by decide
                                   omega)
theorem md {i : Int} {n : Nat} (h : 0 < n) : 0 ≤ i % (n : Int) ∧ i % (n : Int) < n := ⟨Int.emod_nonneg _ (by omega), Int.emod_lt_of_pos _ (by omega)⟩
section
variable {P : Program} {w : World} {K : PySem.W.Frag} {mg : Str → Option Value} {base : Heap} {T : Cs}
theorem sc_law_label : FnScope ["_law_cell", "_law_number"] ["_law_cell"] (defScope s_law_label) := ⟨rfl, rfl, rfl, by decide +kernel, rfl, by decide +kernel, by decide +kernel⟩
theorem ok_law_label (d : Df K mg "_law_label" s_law_label ["_law_cell"]) (z_str : mg "str" = none) : Fn P w K mg base 1 "_law_label" ["_law_cell"] sp_law_label := by
  refine d.ok sc_law_label (fun ds Q h => ?_) (fun f cdv A outer s H E hr ds Q h => ⟨_, (pss_cons' (ps_set' 1 sc_law_label.nd (pe_ix' (i_A (hu_of hr)) (pe_frz (po_lst (pa_cons' pe_int' (pa_cons' pe_int' (pa_cons' pe_int' (pa_cons' pe_int' (pa_cons' (pe_op' o_AddA pe_int' (pe_op' o_mod (pe_op' o_mul (pe_op' o_fdiv (pv' 0) pe_int') pe_int') pe_int')) pa_nil'))))))) (pe_op' o_mod (pv' 0) pe_int')))
    (pss_one' (ps_ret' (pe_op' o_AddA (pe_callTy' c_str z_str PyProof.Rows.boot_str (pa_cons' (pv' 1) pa_nil')) (pe_ix' (i_A (hu_of hr)) (pe_frz (po_lst (pa_cons' (pe_str' []) (pa_cons' (pe_str' [97]) (pa_cons' (pe_str' []) (pa_cons' (pe_str' [98]) (pa_cons' (pe_str' [97, 97]) (pa_cons' (pe_str' []) (pa_cons' (pe_str' [97, 122]) (pa_cons' (pe_str' [122, 122, 122]) pa_nil')))))))))) (pe_op' o_mod (pe_op' o_fdiv (pv' 0) pe_int') pe_int')))))), ?_⟩)
  · obtain ⟨c, rfl, _⟩ := h
    rfl
  obtain ⟨c, rfl, hq⟩ := h
  simp [tSeq', tRet', tIfS', tAsg', gName', tVar', tC', tFrz, tOp', tB', tNot', tAnd', tOr', tAndV', tOrV', tNotV', tIf', tNil', tCons', tTup', tLst', tCB', tBM', tSl', tNoB', tB1', tChain', tFor', iSeq', iRng1', iRng2', iRng3', tComp', tCall', tYes, tNext', tDict1, tFld', tMake', tGet2', tLook, tLookT, tApp', tDPutT, tAsgO', tRetV', tDispT, tCBO', lookΓ, thaw, iKeys', tPop', tDrop', CDiv, CMul]
  obtain ⟨d, e1, m1⟩ := at_mem [D.int 1, D.int 2, D.int 3, D.int 10, D.int (1 + c / 40 * 48271 % 999999999)] (md (i := c) (n := 5) (by decide)).1 (md (i := c) (n := 5) (by decide)).2
  have hm := md (i := c / 40 * 48271) (n := 999999999) (by decide)
  have hd : ∃ n : Int, d = .int n ∧ 0 ≤ n ∧ n < 10 ^ 10 := by
    simp only [List.mem_cons, List.not_mem_nil, or_false] at m1
    rcases m1 with rfl | rfl | rfl | rfl | rfl
    · exact ⟨_, rfl, by omega, by omega⟩
    · exact ⟨_, rfl, by omega, by omega⟩
    · exact ⟨_, rfl, by omega, by omega⟩
    · exact ⟨_, rfl, by omega, by omega⟩
    · exact ⟨_, rfl, by omega, by omega⟩
  obtain ⟨n, rfl, h0, h1⟩ := hd
  refine ⟨.int n, e1, ?_⟩
  rw [rStr_at]
  refine ⟨log_small h0 h1, ?_⟩
  obtain ⟨x, e2, m2⟩ := at_mem [D.str [], D.str [97], D.str [], D.str [98], D.str [97, 97], D.str [], D.str [97, 122], D.str [122, 122, 122]] (md (i := c / 5) (n := 8) (by decide)).1 (md (i := c / 5) (n := 8) (by decide)).2
  have hx : ∃ l : List Nat, x = .str l ∧ l.length ≤ 3 := by
    simp only [List.mem_cons, List.not_mem_nil, or_false] at m2
    rcases m2 with rfl | rfl | rfl | rfl | rfl | rfl | rfl | rfl <;> exact ⟨_, rfl, by decide⟩
  obtain ⟨l, rfl, hl⟩ := hx
  refine ⟨.str l, e2, ?_⟩
  rw [rAddA_str]
  have := numT_len h0 h1
  exact ⟨small (by omega), hq _⟩
theorem sc_law_word : FnScope ["_law_cell", "_law_word_here", "_law_k", "_law_at"] ["_law_cell"] (defScope s_law_word) := ⟨rfl, rfl, rfl, by decide +kernel, rfl, by decide +kernel, by decide +kernel⟩
theorem ok_law_word (d : Df K mg "_law_word" s_law_word ["_law_cell"]) (z_range : mg "range" = none) : Fn P w K mg base 1 "_law_word" ["_law_cell"] sp_law_word := by
  refine d.ok sc_law_word (fun ds Q h => ?_) (fun f cdv A outer s H E hr ds Q h => ⟨_, (pss_cons' (ps_set' 1 sc_law_word.nd (pe_ix' (i_A (hu_of hr)) (pe_str' [97, 98, 49, 122]) (pe_op' o_mod (pv' 0) pe_int')))
    (pss_cons' (ps_for' (pi_range1' z_range (pa_cons' (pe_ix' (i_A (hu_of hr)) (pe_frz (po_lst (pa_cons' pe_int' (pa_cons' pe_int' (pa_cons' pe_int' (pa_cons' pe_int' pa_nil')))))) (pe_op' o_mod (pe_op' o_fdiv (pv' 0) pe_int') pe_int')) pa_nil')) (pg_name' 2 sc_law_word.nd)
      (pss_cons' (ps_set' 3 sc_law_word.nd (pe_op' o_AddA (pe_op' o_fdiv (pv' 0) pe_int') (pe_op' o_mul (pv' 2) (pe_op' o_AddA pe_int' (pe_op' o_mod (pe_op' o_fdiv (pv' 0) pe_int') pe_int')))))
    (pss_one' (ps_set' 1 sc_law_word.nd (pe_op' o_AddA (pv' 1) (pe_ix' (i_A (hu_of hr)) (pe_str' wsg) (pe_op' o_mod (pv' 3) pe_int')))))))
    (pss_one' (ps_ret' (pv' 1))))), ?_⟩)
  · obtain ⟨c, rfl, _⟩ := h
    rfl
  obtain ⟨c, rfl, hq⟩ := h
  simp [tSeq', tRet', tIfS', tAsg', gName', tVar', tC', tFrz, tOp', tB', tNot', tAnd', tOr', tAndV', tOrV', tNotV', tIf', tNil', tCons', tTup', tLst', tCB', tBM', tSl', tNoB', tB1', tChain', tFor', iSeq', iRng1', iRng2', iRng3', tComp', tCall', tYes, tNext', tDict1, tFld', tMake', tGet2', tLook, tLookT, tApp', tDPutT, tAsgO', tRetV', tDispT, tCBO', lookΓ, thaw, iKeys', tPop', tDrop', CDiv]
  obtain ⟨z, e1, m1⟩ := at_mem [97, 98, 49, 122] (md (i := c) (n := 4) (by decide)).1 (md (i := c) (n := 4) (by decide)).2
  refine ⟨z, e1, ?_⟩
  obtain ⟨d, e2, m2⟩ := at_mem [D.int 0, D.int 0, D.int 1, D.int 11] (md (i := c / 4) (n := 4) (by decide)).1 (md (i := c / 4) (n := 4) (by decide)).2
  have hd : ∃ n : Int, d = .int n ∧ 0 ≤ n ∧ n ≤ 11 := by
    simp only [List.mem_cons, List.not_mem_nil, or_false] at m2
    rcases m2 with rfl | rfl | rfl | rfl <;> exact ⟨_, rfl, by omega, by omega⟩
  obtain ⟨n, rfl, h0, h1⟩ := hd
  refine ⟨_, e2, n, rfl, by omega, by omega, ?_⟩
  refine for_ix (fun i Γ => ∃ (l : List Nat) (s2 s3 : Slot), Γ = [.val (.int c), .val (.str l), s2, s3] ∧ l.length = 1 + i) ⟨[z], .emp, .emp, rfl, rfl⟩ ?_ ?_
  · rintro i d Γ hd ⟨l, s2, s3, rfl, hl⟩
    rw [List.getElem?_map] at hd
    have hi : i < n.toNat := by
      cases hc : (List.range n.toNat)[i]? with
      | none => rw [hc] at hd; cases hd
      | some k => simpa using (List.getElem?_eq_some_iff.mp hc).1
    rw [List.getElem?_range hi] at hd
    cases hd
    have hm := md (i := c / 5) (n := 7) (by decide)
    simp [tSeq', tRet', tIfS', tAsg', gName', tVar', tC', tFrz, tOp', tB', tNot', tAnd', tOr', tAndV', tOrV', tNotV', tIf', tNil', tCons', tTup', tLst', tCB', tBM', tSl', tNoB', tB1', tChain', tFor', iSeq', iRng1', iRng2', iRng3', tComp', tCall', tYes, tNext', tDict1, tFld', tMake', tGet2', tLook, tLookT, tApp', tDPutT, tAsgO', tRetV', tDispT, tCBO', lookΓ, thaw, iKeys', tPop', tDrop', CDiv]
    refine ⟨.inr ⟨by omega, by omega⟩, ?_⟩
    obtain ⟨y, e3, m3⟩ := at_mem wsg (md (i := c / 16 + ↑i * (1 + c / 5 % 7)) (n := 36) (by decide)).1 (md (i := c / 16 + ↑i * (1 + c / 5 % 7)) (n := 36) (by decide)).2
    exact ⟨small (by decide), ⟨y, e3⟩, small (by omega), by omega⟩
  · rintro Γ ⟨l, s2, s3, rfl, hl⟩
    simp [tSeq', tRet', tIfS', tAsg', gName', tVar', tC', tFrz, tOp', tB', tNot', tAnd', tOr', tAndV', tOrV', tNotV', tIf', tNil', tCons', tTup', tLst', tCB', tBM', tSl', tNoB', tB1', tChain', tFor', iSeq', iRng1', iRng2', iRng3', tComp', tCall', tYes, tNext', tDict1, tFld', tMake', tGet2', tLook, tLookT, tApp', tDPutT, tAsgO', tRetV', tDispT, tCBO', lookΓ, thaw, iKeys', tPop', tDrop']
    exact hq l
theorem sc_law_words : FnScope ["_law_cell"] ["_law_cell"] (defScope s_law_words) := ⟨rfl, rfl, rfl, by decide +kernel, rfl, by decide +kernel, by decide +kernel⟩
theorem ok_law_words (d : Df K mg "_law_words" s_law_words ["_law_cell"]) (G_law_word : Fn P w K mg base 1 "_law_word" ["_law_cell"] sp_law_word) (z_range : mg "range" = none) (z_tuple : mg "tuple" = none) : Fn P w K mg base 2 "_law_words" ["_law_cell"] sp_law_words := by
  refine d.ok sc_law_words (fun ds Q h => ?_) (fun f cdv A outer s H E hr ds Q h => ⟨_, (pss_one' (ps_ret' (pe_callTy' c_tuple z_tuple PyProof.Rows.boot_tuple (pa_cons' (pe_frz (po_comp (fsc := defScope s_law_words) (N := ["_law_cell"]) (N' := ["_law_k", "_law_cell"]) (src := [none, some 0]) (by refine ⟨rfl, ?_, ?_, ?_, rfl, rfl⟩ <;> decide +kernel) (pi_range1' z_range (pa_cons' (pe_op' o_mod (pv' 0) pe_int') pa_nil')) (fun _ _ _ _ _ _ => (pg_name' 0 (show (["_law_k", "_law_cell"] : List Str).Nodup by decide +kernel))) (fun _ _ _ _ _ _ => pts_nil') (fun _ _ _ _ _ _ => (pe_fn G_law_word (hr.mono (by decide)) (pa_cons' (pe_op' o_AddA (pe_op' o_fdiv (pv' 1) pe_int') (pe_op' o_mul (pv' 0) (pe_op' o_AddA pe_int' (pe_op' o_mod (pe_op' o_fdiv (pv' 1) pe_int') pe_int')))) pa_nil'))))) pa_nil')))), ?_⟩)
  · obtain ⟨c, rfl, _⟩ := h
    rfl
  obtain ⟨c, rfl, hq⟩ := h
  simp [tSeq', tRet', tIfS', tAsg', gName', tVar', tC', tFrz, tOp', tB', tNot', tAnd', tOr', tAndV', tOrV', tNotV', tIf', tNil', tCons', tTup', tLst', tCB', tBM', tSl', tNoB', tB1', tChain', tFor', iSeq', iRng1', iRng2', iRng3', tComp', tCall', tYes, tNext', tDict1, tFld', tMake', tGet2', tLook, tLookT, tApp', tDPutT, tAsgO', tRetV', tDispT, tCBO', lookΓ, thaw, iKeys', tPop', tDrop', sp_law_word]
  have hm := md (i := c) (n := 5) (by decide)
  have h5 : 5 ≤ sizeLine := sz5
  refine ⟨by omega, by omega, by omega, ?_⟩
  refine comp_ix (fun i acc Γ => ∃ (ws : Pl) (s0 : Slot), acc = ws.map .str ∧ ws.length = i ∧ Γ = [s0, .val (.int c)]) ⟨[], .emp, rfl, rfl, rfl⟩ ?_ ?_
  · rintro i d acc Γ hd ⟨ws, s0, rfl, hl, rfl⟩
    rw [List.getElem?_map] at hd
    have hi : i < (c % 5).toNat := by
      cases hc : (List.range (c % 5).toNat)[i]? with
      | none => rw [hc] at hd; cases hd
      | some k => simpa using (List.getElem?_eq_some_iff.mp hc).1
    rw [List.getElem?_range hi] at hd
    cases hd
    have hm2 := md (i := c / 20) (n := 3) (by decide)
    simp [tSeq', tRet', tIfS', tAsg', gName', tVar', tC', tFrz, tOp', tB', tNot', tAnd', tOr', tAndV', tOrV', tNotV', tIf', tNil', tCons', tTup', tLst', tCB', tBM', tSl', tNoB', tB1', tChain', tFor', iSeq', iRng1', iRng2', iRng3', tComp', tCall', tYes, tNext', tDict1, tFld', tMake', tGet2', tLook, tLookT, tApp', tDPutT, tAsgO', tRetV', tDispT, tCBO', lookΓ, thaw, iKeys', tPop', tDrop', CDiv, sp_law_word]
    refine ⟨.inr ⟨by omega, by omega⟩, fun l => ⟨ws ++ [l], by simp, by simp; omega⟩⟩
  · rintro acc Γ ⟨ws, s0, rfl, hl, rfl⟩
    rw [List.length_map, List.length_range] at hl
    exact hq ws (by omega)
theorem sc_law_place : FnScope ["_law_nodes_here", "_law_cell", "_law_some", "_law_place_here"] ["_law_nodes_here", "_law_cell"] (defScope s_law_place) := ⟨rfl, rfl, rfl, by decide +kernel, rfl, by decide +kernel, by decide +kernel⟩
theorem ok_law_place (d : Df K mg "_law_place" s_law_place ["_law_nodes_here", "_law_cell"]) (G_law_label : Fn P w K mg base 1 "_law_label" ["_law_cell"] sp_law_label) (z_len : mg "len" = none) (z_list : mg "list" = none) : Fn P w K mg base 2 "_law_place" ["_law_nodes_here", "_law_cell"] sp_law_place := by
  refine d.ok sc_law_place (fun ds Q h => ?_) (fun f cdv A outer s H E hr ds Q h => ⟨_, (pss_cons' (ps_set' 2 sc_law_place.nd (pe_frz (po_callTy' (c_listA rfl) z_list PyProof.Rows.boot_list (pa_cons' (pv' 0) pa_nil'))))
    (pss_cons' (ps_set' 3 sc_law_place.nd (pe_ix' (i_A (hu_of hr)) (pv' 2) (pe_op' o_mod (pe_op' o_AddA (pe_op' o_fdiv (pv' 1) pe_int') (pe_op' o_mul (pe_op' o_mod (pv' 1) pe_int') pe_int')) (pe_callB' c_lenA z_len PySem.boot_len (pa_cons' (pv' 2) pa_nil')))))
    (pss_cons' (ps_if' (pt_cmp' (o_eqD (hu100 hr)) (pe_op' o_mod (pv' 1) pe_int') pe_int') (pss_one' (ps_ret' (pe_op' o_AddA (pe_sl' s_A (pv' 3) pb_no (pb_at pe_neg')) (pe_tup' (pa_cons' (pe_fn G_law_label (hr.mono (by decide)) (pa_cons' (pe_op' o_fdiv (pv' 1) pe_int') pa_nil')) pa_nil'))))) pss_nil')
    (pss_cons' (ps_if' (PW'.pt (pw_and' (pt_cmp' (o_eqD (hu100 hr)) (pe_op' o_mod (pv' 1) pe_int') pe_int') (pw_and1' (pt_cmp' o_lt (pe_callB' c_lenA z_len PySem.boot_len (pa_cons' (pv' 3) pa_nil')) pe_int')))) (pss_one' (ps_ret' (pe_op' o_AddA (pv' 3) (pe_tup' (pa_cons' (pe_fn G_law_label (hr.mono (by decide)) (pa_cons' (pe_op' o_fdiv (pv' 1) pe_int') pa_nil')) pa_nil'))))) pss_nil')
    (pss_one' (ps_ret' (pv' 3))))))), ?_⟩)
  · obtain ⟨es, c, rfl, _⟩ := h
    rfl
  obtain ⟨es, c, rfl, hes, hq⟩ := h
  simp [tSeq', tRet', tIfS', tAsg', gName', tVar', tC', tFrz, tOp', tB', tNot', tAnd', tOr', tAndV', tOrV', tNotV', tIf', tNil', tCons', tTup', tLst', tCB', tBM', tSl', tNoB', tB1', tChain', tFor', iSeq', iRng1', iRng2', iRng3', tComp', tCall', tYes, tNext', tDict1, tFld', tMake', tGet2', tLook, tLookT, tApp', tDPutT, tAsgO', tRetV', tDispT, tCBO', lookΓ, thaw, iKeys', tPop', tDrop', sp_law_label, CDiv, CMul]
  obtain ⟨hne, hle, hall⟩ := hes
  have hpos : 0 < es.length := List.length_pos_iff.mpr hne
  obtain ⟨d, e1, m1⟩ := at_mem (es.map (·.1)) (md (i := c / 4 + c % 4 * 3) (n := es.length) hpos).1 (by rw [List.length_map]; exact (md (i := c / 4 + c % 4 * 3) (n := es.length) hpos).2)
  obtain ⟨q, mq, rfl⟩ := List.mem_map.mp m1
  obtain ⟨p, ws, rfl, hp, _⟩ := hall q mq
  refine ⟨hpos, plc p, e1, ?_⟩
  by_cases h3 : c % 4 = 3
  · refine .inr ⟨h3, ?_⟩
    simp only [rSlA_plc, cutD_init]
    intro l
    rw [rAddA_plc]
    have : p.dropLast.length ≤ 8 := by rw [List.length_dropLast]; omega
    exact ⟨small (by simp; omega), hq _ (by simp; omega)⟩
  · refine .inl ⟨h3, ?_⟩
    by_cases h6 : c % 16 = 6
    · refine .inr ⟨h6, ?_⟩
      simp
      by_cases h8 : p.length < 8
      · refine .inr ⟨by omega, fun l => ⟨small (by omega), hq _ (by simp; omega)⟩⟩
      · exact .inl ⟨by omega, hq _ (by omega)⟩
    · exact .inl ⟨h6, hq _ (by omega)⟩
end

end K24

namespace K24
open PySem L2 Lb PL M24
open Classical in
theorem dPut_mem {es : List (D × D)} {k v : D} {q : D × D} (h : q ∈ dPut es k v) : q ∈ es ∨ q = (k, v) := by
  unfold dPut at h
  split at h
  · obtain ⟨p, hp, e⟩ := List.mem_map.mp h
    split at e
    · rename_i z
      rw [← e, z]
      exact .inr rfl
    · rw [← e]
      exact .inl hp
  · rcases List.mem_append.mp h with h | h
    · exact .inl h
    · exact .inr (by simpa using h)
open Classical in
theorem dPut_len (es : List (D × D)) (k v : D) : (dPut es k v).length ≤ es.length + 1 := by
  unfold dPut
  split
  · rw [List.length_map]; omega
  · rw [List.length_append]; simp
open Classical in
theorem dPut_ne (es : List (D × D)) (k v : D) (h : es ≠ []) : dPut es k v ≠ [] := by
  unfold dPut
  split
  · simpa using h
  · simp
open Classical in
theorem dFind_mem {es : List (D × D)} {k v : D} (h : dFind es k = some v) : (k, v) ∈ es := by
  unfold dFind at h
  obtain ⟨q, hq, e⟩ := Option.map_eq_some_iff.mp h
  have h1 := List.mem_of_find?_eq_some hq
  have h2 := List.find?_some hq
  obtain ⟨a, b⟩ := q
  have h2' : a = k := by simpa using h2
  dsimp only at e
  rw [← h2', ← e]
  exact h1
theorem cutD_le {α : Type} (xs : List α) (lo hi : Option Int) : (cutD xs lo hi).length ≤ xs.length := by
  unfold cutD
  rw [List.length_take, List.length_drop]
  omega
section
variable {P : Program} {w : World} {K : PySem.W.Frag} {mg : Str → Option Value} {base : Heap} {T : Cs}
theorem sc_law_nodes : FnScope ["_law_cells", "_law_nodes_here", "_law_made_here", "_law_cell", "_law_above", "_law_place_here"] ["_law_cells"] (defScope s_law_nodes) := ⟨rfl, rfl, rfl, by decide +kernel, rfl, by decide +kernel, by decide +kernel⟩
theorem ok_law_nodes (d : Df K mg "_law_nodes" s_law_nodes ["_law_cells"]) (G_law_label : Fn P w K mg base 1 "_law_label" ["_law_cell"] sp_law_label) (G_law_words : Fn P w K mg base 2 "_law_words" ["_law_cell"] sp_law_words) (z_len : mg "len" = none) : Fn P w K mg base 3 "_law_nodes" ["_law_cells"] sp_law_nodes := by
  refine d.ok sc_law_nodes (fun ds Q h => ?_) (fun f cdv A outer s H E hr ds Q h => ⟨_, (pss_cons' (ps_setO' 1 sc_law_nodes.nd (po_dispT (hu_of hr) (pe_tup' pa_nil') (pe_tup' (pa_cons' (pe_str' [97, 108, 108]) pa_nil'))))
    (pss_cons' (ps_setO' 2 sc_law_nodes.nd (po_lst (pa_cons' (pe_tup' pa_nil') pa_nil')))
    (pss_cons' (ps_for' (pi_seq' (pv' 0)) (pg_name' 3 sc_law_nodes.nd)
      (pss_cons' (ps_set' 4 sc_law_nodes.nd (pe_look (pe_ix' (i_A (hu_of hr)) (pv' 2) (pe_op' o_mod (pe_op' o_AddA (pe_op' o_fdiv (pv' 3) pe_int') (pe_op' o_mod (pv' 3) pe_int')) (pe_callB' c_lenA z_len PySem.boot_len (pa_cons' (pv' 2) pa_nil'))))))
    (pss_cons' (ps_set' 5 sc_law_nodes.nd (pe_op' o_AddA (pv' 4) (pe_tup' (pa_cons' (pe_fn G_law_label (hr.mono (by decide)) (pa_cons' (pe_op' o_fdiv (pv' 3) pe_int') pa_nil')) pa_nil'))))
    (pss_cons' (ps_if' (PW'.pt (pw_or' (pt_cmp' o_gt (pe_callB' c_lenA z_len PySem.boot_len (pa_cons' (pv' 5) pa_nil')) pe_int') (pw_or1' (pt_cmp' (o_eqD (hu100 hr)) (pe_op' o_mod (pv' 3) pe_int') pe_int')))) (pss_one' (ps_set' 5 sc_law_nodes.nd (pv' 4))) pss_nil')
    (pss_cons' (ps_if' (pt_look (pt_cmp' (o_NotInA (hu_of hr)) (pv' 5) (pv' 1))) (pss_one' (ps_append' 2 (pv' 5))) pss_nil')
    (pss_one' (ps_dputT (hu_of hr) 1 (pv' 5) (pe_fn G_law_words (hr.mono (by decide)) (pa_cons' (pe_op' o_fdiv (pv' 3) pe_int') pa_nil')))))))))
    (pss_one' (ps_retV' 1))))), ?_⟩)
  · obtain ⟨ns, rfl, _⟩ := h
    rfl
  obtain ⟨ns, rfl, hl, hq⟩ := h
  simp [tSeq', tRet', tIfS', tAsg', gName', tVar', tC', tFrz, tOp', tB', tNot', tAnd', tOr', tAndV', tOrV', tNotV', tIf', tNil', tCons', tTup', tLst', tCB', tBM', tSl', tNoB', tB1', tChain', tFor', iSeq', iRng1', iRng2', iRng3', tComp', tCall', tYes, tNext', tDict1, tFld', tMake', tGet2', tLook, tLookT, tApp', tDPutT, tAsgO', tRetV', tDispT, tCBO', lookΓ, thaw, iKeys', tPop', tDrop', sp_law_label, sp_law_words]
  refine ⟨Imm.plc _, Imm.plc _, ⟨[], rfl⟩, ?_⟩
  refine for_ix (fun i Γ => ∃ (es : List (D × D)) (mp : List Pl) (s3 s4 s5 : Slot), Γ = [.val (.lst (ns.map .int)), .own (.dit es), .own (.lst (mp.map plc)), s3, s4, s5] ∧ es ≠ [] ∧ es.length ≤ 1 + i ∧ (∀ q ∈ es, ∃ p ws : Pl, q = (plc p, plc ws) ∧ p.length ≤ 8 ∧ ws.length ≤ 4) ∧ mp ≠ [] ∧ mp.length ≤ 1 + i ∧ ∀ p ∈ mp, p.length ≤ 8)
    ⟨_, [[]], _, _, _, rfl, by simp, by simp, fun q hq => ⟨[], [[97, 108, 108]], by simpa using hq, by simp, by simp⟩, by simp, by simp, by simp⟩ ?_ ?_
  · rintro i d Γ hd ⟨es, mp, s3, s4, s5, rfl, hne, hle, hall, hmp, hml, hma⟩
    have hi : i < ns.length := by simpa using (List.getElem?_eq_some_iff.mp hd).1
    rw [List.getElem?_map, List.getElem?_eq_getElem hi] at hd
    cases hd
    have hpos : 0 < mp.length := List.length_pos_iff.mpr hmp
    have hp0 := md (i := ns[i] / 120 + ns[i] % 120) (n := mp.length) hpos
    obtain ⟨d, e1, m1⟩ := at_mem (mp.map plc) hp0.1 (by rw [List.length_map]; exact hp0.2)
    obtain ⟨p, mq, rfl⟩ := List.mem_map.mp m1
    have hp8 := hma p mq
    simp [tSeq', tRet', tIfS', tAsg', gName', tVar', tC', tFrz, tOp', tB', tNot', tAnd', tOr', tAndV', tOrV', tNotV', tIf', tNil', tCons', tTup', tLst', tCB', tBM', tSl', tNoB', tB1', tChain', tFor', iSeq', iRng1', iRng2', iRng3', tComp', tCall', tYes, tNext', tDict1, tFld', tMake', tGet2', tLook, tLookT, tApp', tDPutT, tAsgO', tRetV', tDispT, tCBO', lookΓ, thaw, iKeys', tPop', tDrop', CDiv, sp_law_label, sp_law_words]
    refine ⟨hpos, plc p, e1, Imm.plc p, ?_⟩
    have hsE : es.length < sizeLine := small1000 (by omega)
    have hsM : mp.length < sizeLine := small1000 (by omega)
    have F3 : ∀ (q ws : Pl), q.length ≤ 8 → ws.length ≤ 4 → ∀ a b, (a, b) ∈ dPut es (plc q) (plc ws) → ∃ p ws, (a = plc p ∧ b = plc ws) ∧ List.length p ≤ 8 ∧ List.length ws ≤ 4 := fun q ws h1 h2 a b hm => by
      rcases dPut_mem hm with h | h
      · obtain ⟨p', w', e, h3, h4⟩ := hall _ h
        injection e with e1 e2
        exact ⟨p', w', ⟨e1, e2⟩, h3, h4⟩
      · injection h with e1 e2
        exact ⟨q, ws, ⟨e1, e2⟩, h1, h2⟩
    have F2 : ∀ k v : D, (dPut es k v).length ≤ 1 + (i + 1) := fun k v => by have := dPut_len es k v; omega
    have M1 : ∀ q : Pl, q.length ≤ 8 → ∀ r ∈ mp ++ [q], r.length ≤ 8 := fun q h r hr => by
      rcases List.mem_append.mp hr with h' | h'
      · exact hma r h'
      · rw [show r = q by simpa using h']; exact h
    intro l
    rw [rAddA_plc]
    refine ⟨small (by simp; omega), ?_⟩
    simp
    by_cases h8 : 8 ≤ p.length
    · refine .inr ⟨by omega, rNotInA_dit _ _ ?_⟩
      cases (dFind es (plc p)).isSome <;> simp
      · exact ⟨hsM, fun ws hws => ⟨⟨keysOf p, plc_key p⟩, hsE, _, mp ++ [p], ⟨rfl, by simp⟩, dPut_ne _ _ _ hne, F2 _ _, F3 p ws hp8 hws, by simp, by simp; omega, M1 p hp8⟩⟩
      · exact fun ws hws => ⟨⟨keysOf p, plc_key p⟩, hsE, _, mp, ⟨rfl, rfl⟩, dPut_ne _ _ _ hne, F2 _ _, F3 p ws hp8 hws, hmp, by omega, hma⟩
    · refine .inl ⟨by omega, ?_⟩
      by_cases h7 : ns[i] % 7 = 6
      · refine .inr ⟨h7, rNotInA_dit _ _ ?_⟩
        cases (dFind es (plc p)).isSome <;> simp
        · exact ⟨hsM, fun ws hws => ⟨⟨keysOf p, plc_key p⟩, hsE, _, mp ++ [p], ⟨rfl, by simp⟩, dPut_ne _ _ _ hne, F2 _ _, F3 p ws hp8 hws, by simp, by simp; omega, M1 p hp8⟩⟩
        · exact fun ws hws => ⟨⟨keysOf p, plc_key p⟩, hsE, _, mp, ⟨rfl, rfl⟩, dPut_ne _ _ _ hne, F2 _ _, F3 p ws hp8 hws, hmp, by omega, hma⟩
      · have hpl : (p ++ [l]).length ≤ 8 := by simp; omega
        refine .inl ⟨h7, rNotInA_dit _ _ ?_⟩
        cases (dFind es (plc (p ++ [l]))).isSome <;> simp
        · exact ⟨hsM, fun ws hws => ⟨⟨keysOf (p ++ [l]), plc_key (p ++ [l])⟩, hsE, _, mp ++ [p ++ [l]], ⟨rfl, by simp⟩, dPut_ne _ _ _ hne, F2 _ _, F3 (p ++ [l]) ws hpl hws, by simp, by simp; omega, M1 (p ++ [l]) hpl⟩⟩
        · exact fun ws hws => ⟨⟨keysOf (p ++ [l]), plc_key (p ++ [l])⟩, hsE, _, mp, ⟨rfl, rfl⟩, dPut_ne _ _ _ hne, F2 _ _, F3 (p ++ [l]) ws hpl hws, hmp, by omega, hma⟩
  · rintro Γ ⟨es, mp, s3, s4, s5, rfl, hne, hle, hall, hmp, hml, hma⟩
    simp [tSeq', tRet', tIfS', tAsg', gName', tVar', tC', tFrz, tOp', tB', tNot', tAnd', tOr', tAndV', tOrV', tNotV', tIf', tNil', tCons', tTup', tLst', tCB', tBM', tSl', tNoB', tB1', tChain', tFor', iSeq', iRng1', iRng2', iRng3', tComp', tCall', tYes, tNext', tDict1, tFld', tMake', tGet2', tLook, tLookT, tApp', tDPutT, tAsgO', tRetV', tDispT, tCBO', lookΓ, thaw, iKeys', tPop', tDrop']
    exact hq es ⟨hne, by rw [List.length_map] at hle; omega, hall⟩
theorem sc_law_change : FnScope ["_law_nodes_here", "_law_cell", "_law_more", "_law_place_here", "_law_old", "_law_node", "_law_k"] ["_law_nodes_here", "_law_cell", "_law_more"] (defScope s_law_change) := ⟨rfl, rfl, rfl, by decide +kernel, rfl, by decide +kernel, by decide +kernel⟩
theorem ok_law_change (d : Df K mg "_law_change" s_law_change ["_law_nodes_here", "_law_cell", "_law_more"]) (G_law_label : Fn P w K mg base 1 "_law_label" ["_law_cell"] sp_law_label) (G_law_words : Fn P w K mg base 2 "_law_words" ["_law_cell"] sp_law_words) (G_law_place : Fn P w K mg base 2 "_law_place" ["_law_nodes_here", "_law_cell"] sp_law_place) (z_range : mg "range" = none) : Fn P w K mg base 3 "_law_change" ["_law_nodes_here", "_law_cell", "_law_more"] sp_law_change := by
  refine d.ok sc_law_change (fun ds Q h => ?_) (fun f cdv A outer s H E hr ds Q h => ⟨_, (pss_cons' (ps_set' 3 sc_law_change.nd (pe_fn G_law_place (hr.mono (by decide)) (pa_cons' (pv' 0) (pa_cons' (pe_op' o_fdiv (pv' 1) pe_int') pa_nil'))))
    (pss_cons' (ps_if' (pt_cmp' (o_eqD (hu100 hr)) (pe_op' o_mod (pv' 1) pe_int') pe_int') (pss_cons' (ps_set' 4 sc_law_change.nd (pe_sl' s_A (pe_get2' (hu_of hr) (pv' 0) (pv' 3) (pe_tup' pa_nil')) (pb_at (pe_op' o_mod (pv' 2) pe_int')) (pb_at (pe_op' o_AddA (pe_op' o_AddA (pe_op' o_mod (pv' 2) pe_int') pe_int') (pe_op' o_mod (pe_op' o_fdiv (pv' 2) pe_int') pe_int')))))
    (pss_cons' (ps_if' (pt_cmp' (o_eqD (hu100 hr)) (pv' 4) (pe_tup' pa_nil')) (pss_one' (ps_set' 4 sc_law_change.nd (pe_op' o_AddA (pe_sl' s_A (pe_fn G_law_words (hr.mono (by decide)) (pa_cons' (pv' 2) pa_nil')) pb_no (pb_at pe_int')) (pe_tup' (pa_cons' (pe_str' [97]) pa_nil'))))) pss_nil')
    (pss_one' (ps_ret' (pe_tup' (pa_cons' (pe_str' [115, 119, 97, 112]) (pa_cons' (pv' 3) (pa_cons' (pv' 4) (pa_cons' (pe_fn G_law_words (hr.mono (by decide)) (pa_cons' (pe_op' o_fdiv (pv' 2) pe_int') pa_nil')) pa_nil'))))))))) pss_nil')
    (pss_cons' (ps_if' (pt_cmp' (o_eqD (hu100 hr)) (pe_op' o_mod (pv' 1) pe_int') pe_int') (pss_one' (ps_ret' (pe_tup' (pa_cons' (pe_str' [114, 101, 97, 100]) (pa_cons' (pv' 3) (pa_cons' (pe_fn G_law_words (hr.mono (by decide)) (pa_cons' (pv' 2) pa_nil')) pa_nil')))))) pss_nil')
    (pss_cons' (ps_if' (pt_cmp' (o_eqD (hu100 hr)) (pe_op' o_mod (pv' 1) pe_int') pe_int') (pss_cons' (ps_set' 5 sc_law_change.nd (pe_tup' (pa_cons' (pe_fn G_law_label (hr.mono (by decide)) (pa_cons' (pv' 2) pa_nil')) (pa_cons' (pe_fn G_law_words (hr.mono (by decide)) (pa_cons' (pe_op' o_fdiv (pv' 2) pe_int') pa_nil')) (pa_cons' (pe_tup' pa_nil') pa_nil')))))
    (pss_cons' (ps_for' (pi_range1' z_range (pa_cons' (pe_ix' (i_A (hu_of hr)) (pe_frz (po_lst (pa_cons' pe_int' (pa_cons' pe_int' (pa_cons' pe_int' (pa_cons' pe_int' pa_nil')))))) (pe_op' o_mod (pe_op' o_fdiv (pv' 2) pe_int') pe_int')) pa_nil')) (pg_name' 6 sc_law_change.nd)
      (pss_one' (ps_set' 5 sc_law_change.nd (pe_tup' (pa_cons' (pe_fn G_law_label (hr.mono (by decide)) (pa_cons' (pe_op' o_AddA (pe_op' o_fdiv (pv' 2) pe_int') (pv' 6)) pa_nil')) (pa_cons' (pe_tup' pa_nil') (pa_cons' (pe_tup' (pa_cons' (pv' 5) pa_nil')) pa_nil')))))))
    (pss_one' (ps_ret' (pe_tup' (pa_cons' (pe_str' [112, 117, 116]) (pa_cons' (pv' 3) (pa_cons' (pv' 5) pa_nil')))))))) pss_nil')
    (pss_cons' (ps_if' (pt_cmp' (o_eqD (hu100 hr)) (pe_op' o_mod (pv' 1) pe_int') pe_int') (pss_one' (ps_ret' (pe_tup' (pa_cons' (pe_str' [111, 117, 116]) (pa_cons' (pv' 3) pa_nil'))))) pss_nil')
    (pss_one' (ps_ret' (pe_tup' (pa_cons' (pe_str' [97, 110, 101, 119]) (pa_cons' (pv' 3) pa_nil')))))))))), ?_⟩)
  · obtain ⟨es, c, m, rfl, _⟩ := h
    rfl
  obtain ⟨es, c, m, rfl, hes, hq⟩ := h
  simp [tSeq', tRet', tIfS', tAsg', gName', tVar', tC', tFrz, tOp', tB', tNot', tAnd', tOr', tAndV', tOrV', tNotV', tIf', tNil', tCons', tTup', tLst', tCB', tBM', tSl', tNoB', tB1', tChain', tFor', iSeq', iRng1', iRng2', iRng3', tComp', tCall', tYes, tNext', tDict1, tFld', tMake', tGet2', tLook, tLookT, tApp', tDPutT, tAsgO', tRetV', tDispT, tCBO', lookΓ, thaw, iKeys', tPop', tDrop', sp_law_label, sp_law_words, sp_law_place, CDiv]
  refine ⟨hes, fun p hp => ?_⟩
  by_cases h0 : c % 5 = 0
  · refine .inr ⟨h0, ⟨keysOf p, plc_key p⟩, ?_⟩
    have hv : ∃ ws : Pl, (dFind es (plc p)).getD (plc []) = plc ws := by
      cases e : dFind es (plc p) with
      | none => exact ⟨[], rfl⟩
      | some v =>
        obtain ⟨p', ws, e2, _⟩ := hes.2.2 _ (dFind_mem e)
        injection e2 with _ e2
        exact ⟨ws, e2⟩
    obtain ⟨wo, hv⟩ := hv
    rw [hv, rSlA_plc, rEqD_plc]
    by_cases he : cutD wo (some (m % 3)) (some (m % 3 + 1 + m / 3 % 2)) = []
    · refine .inr ⟨by simp [he], fun ws hws => ⟨small (by have := cutD_le ws none (some 2); omega), fun ws1 _ => ?_⟩⟩
      exact hq (.swap p _ ws1) hp
    · refine .inl ⟨by simp [he], fun ws hws => ?_⟩
      exact hq (.swap p _ ws) hp
  · refine .inl ⟨h0, ?_⟩
    by_cases h1 : c % 5 = 1
    · exact .inr ⟨h1, fun ws _ => hq (.read p ws) hp⟩
    · refine .inl ⟨h1, ?_⟩
      by_cases h2 : c % 5 = 2
      · refine .inr ⟨h2, fun l ws _ => ?_⟩
        obtain ⟨d, e2, m2⟩ := at_mem [D.int 0, D.int 0, D.int 1, D.int 7] (md (i := m / 5) (n := 4) (by decide)).1 (md (i := m / 5) (n := 4) (by decide)).2
        have hd : ∃ n : Int, d = .int n ∧ 0 ≤ n ∧ n ≤ 7 := by
          simp only [List.mem_cons, List.not_mem_nil, or_false] at m2
          rcases m2 with rfl | rfl | rfl | rfl <;> exact ⟨_, rfl, by omega, by omega⟩
        obtain ⟨n, rfl, hn0, hn1⟩ := hd
        refine ⟨_, e2, n, rfl, by omega, by omega, ?_⟩
        refine for_ix (fun i Γ => ∃ (l : List Nat) (r : List D) (s6 : Slot), Γ = [.val (.dit es), .val (.int c), .val (.int m), .val (plc p), .emp, .val (.tup (.str l :: r)), s6]) ⟨l, _, _, rfl⟩ ?_ ?_
        · rintro i d Γ hd ⟨l, r, s6, rfl⟩
          rw [List.getElem?_map] at hd
          cases hc : (List.range n.toNat)[i]? with
          | none => rw [hc] at hd; cases hd
          | some k =>
            rw [hc] at hd
            cases hd
            simp [tSeq', tRet', tIfS', tAsg', gName', tVar', tC', tFrz, tOp', tB', tNot', tAnd', tOr', tAndV', tOrV', tNotV', tIf', tNil', tCons', tTup', tLst', tCB', tBM', tSl', tNoB', tB1', tChain', tFor', iSeq', iRng1', iRng2', iRng3', tComp', tCall', tYes, tNext', tDict1, tFld', tMake', tGet2', tLook, tLookT, tApp', tDPutT, tAsgO', tRetV', tDispT, tCBO', lookΓ, thaw, iKeys', tPop', tDrop', CDiv, sp_law_label]
        · rintro Γ ⟨l, r, s6, rfl⟩
          simp [tSeq', tRet', tIfS', tAsg', gName', tVar', tC', tFrz, tOp', tB', tNot', tAnd', tOr', tAndV', tOrV', tNotV', tIf', tNil', tCons', tTup', tLst', tCB', tBM', tSl', tNoB', tB1', tChain', tFor', iSeq', iRng1', iRng2', iRng3', tComp', tCall', tYes, tNext', tDict1, tFld', tMake', tGet2', tLook, tLookT, tApp', tDPutT, tAsgO', tRetV', tDispT, tCBO', lookΓ, thaw, iKeys', tPop', tDrop']
          exact hq (.put p l r) hp
      · refine .inl ⟨h2, ?_⟩
        by_cases h3 : c % 5 = 3
        · exact .inr ⟨h3, hq (.out p) hp⟩
        · exact .inl ⟨h3, hq (.anew p) hp⟩
end

end K24

namespace K24
open PySem L2 Lb PL M24
section
variable {P : Program} {w : World} {K : PySem.W.Frag} {mg : Str → Option Value} {base : Heap} {T : Cs}
theorem sc_law : FnScope ["_law_script", "_law_nodes_here", "_law_k", "_law_one", "_law_other", "_law_found", "_law_turned"] ["_law_script"] (defScope s_law) := ⟨rfl, rfl, rfl, by decide +kernel, rfl, by decide +kernel, by decide +kernel⟩
theorem ok_law (d : Df K mg "law" s_law ["_law_script"]) (G_are_apart : Fn P w K mg base 4 "are_apart" ["one", "other"] (sp_are_apart T)) (G_law_nodes : Fn P w K mg base 3 "_law_nodes" ["_law_cells"] sp_law_nodes) (G_law_change : Fn P w K mg base 3 "_law_change" ["_law_nodes_here", "_law_cell", "_law_more"] sp_law_change) (G_law_made : Fn P w K mg base 3 "_law_made" ["_law_one"] (sp_law_made T)) (G_law_apart : Fn P w K mg base 3 "_law_apart" ["_law_one", "_law_other"] sp_law_apart) (z_bool : mg "bool" = none) (z_isinstance : mg "isinstance" = none) (z_len : mg "len" = none) (z_min : mg "min" = none) (z_range : mg "range" = none) : Fn P w K mg base 5 "law" ["_law_script"] sp_law := by
  refine d.ok sc_law (fun ds Q h => ?_) (fun f cdv A outer s H E hr ds Q h => ⟨_, (pss_cons' (ps_set' 1 sc_law.nd (pe_fn G_law_nodes (hr.mono (by decide)) (pa_cons' (pe_sl' s_A (pv' 0) (pb_at pe_int') (pb_at pe_int')) pa_nil')))
    (pss_cons' (ps_for' (pi_range3' z_range (pa_cons' pe_int' (pa_cons' (pe_op' o_sub (pe_callB' (c_min2 rfl) z_min PyProof.Rows.boot_min (pa_cons' (pe_callB' c_lenA z_len PySem.boot_len (pa_cons' (pv' 0) pa_nil')) (pa_cons' pe_int' pa_nil'))) pe_int') (pa_cons' pe_int' pa_nil')))) (pg_name' 2 sc_law.nd)
      (pss_cons' (ps_set' 3 sc_law.nd (pe_fn G_law_change (hr.mono (by decide)) (pa_cons' (pv' 1) (pa_cons' (pe_ix' (i_A (hu_of hr)) (pv' 0) (pv' 2)) (pa_cons' (pe_ix' (i_A (hu_of hr)) (pv' 0) (pe_op' o_AddA (pv' 2) pe_int')) pa_nil')))))
    (pss_cons' (ps_set' 4 sc_law.nd (pe_fn G_law_change (hr.mono (by decide)) (pa_cons' (pv' 1) (pa_cons' (pe_ix' (i_A (hu_of hr)) (pv' 0) (pe_op' o_AddA (pv' 2) pe_int')) (pa_cons' (pe_ix' (i_A (hu_of hr)) (pv' 0) (pe_op' o_AddA (pv' 2) pe_int')) pa_nil')))))
    (pss_cons' (ps_set' 5 sc_law.nd (pe_fn G_are_apart (hr.mono (by decide)) (pa_cons' (pe_fn G_law_made (hr.mono (by decide)) (pa_cons' (pv' 3) pa_nil')) (pa_cons' (pe_fn G_law_made (hr.mono (by decide)) (pa_cons' (pv' 4) pa_nil')) pa_nil'))))
    (pss_cons' (ps_set' 6 sc_law.nd (pe_fn G_are_apart (hr.mono (by decide)) (pa_cons' (pe_fn G_law_made (hr.mono (by decide)) (pa_cons' (pv' 4) pa_nil')) (pa_cons' (pe_fn G_law_made (hr.mono (by decide)) (pa_cons' (pv' 3) pa_nil')) pa_nil'))))
    (pss_cons' (ps_if' (PW'.pt (pw_or' (pt_not' (pt_val' (pe_callB' c_isiA z_isinstance PyProof.Rows.boot_isinstance (pa_cons' (pv' 5) (pa_cons' (pe_ty' z_bool PyProof.Rows.boot_bool) pa_nil'))))) (pw_or1' (pt_cmp' (o_neD (hu100 hr)) (pv' 5) (pe_fn G_law_apart (hr.mono (by decide)) (pa_cons' (pv' 3) (pa_cons' (pv' 4) pa_nil'))))))) (pss_one' (ps_ret' pe_bl')) pss_nil')
    (pss_one' (ps_if' (PW'.pt (pw_or' (pt_not' (pt_val' (pe_callB' c_isiA z_isinstance PyProof.Rows.boot_isinstance (pa_cons' (pv' 6) (pa_cons' (pe_ty' z_bool PyProof.Rows.boot_bool) pa_nil'))))) (pw_or1' (pt_cmp' (o_neD (hu100 hr)) (pv' 6) (pv' 5))))) (pss_one' (ps_ret' pe_bl')) pss_nil'))))))))
    (pss_one' (ps_ret' pe_bl')))), ?_⟩)
  · obtain ⟨ns, rfl, _⟩ := h
    rfl
  obtain ⟨ns, rfl, hl, hq⟩ := h
  simp [tSeq', tRet', tIfS', tAsg', gName', tVar', tC', tFrz, tOp', tB', tNot', tAnd', tOr', tAndV', tOrV', tNotV', tIf', tNil', tCons', tTup', tLst', tCB', tBM', tSl', tNoB', tB1', tChain', tFor', iSeq', iRng1', iRng2', iRng3', tComp', tCall', tYes, tNext', tDict1, tFld', tMake', tGet2', tLook, tLookT, tApp', tDPutT, tAsgO', tRetV', tDispT, tCBO', lookΓ, thaw, iKeys', tPop', tDrop', sp_law_nodes]
  have hcl := cutD_le ns (some 6) (some 36)
  refine ⟨cutD ns (some 6) (some 36), cutD_map _ _ _ _, by omega, fun es hes => ⟨by split <;> omega, ?_⟩⟩
  refine for_ix (fun i Γ => ∃ (s2 s3 s4 s5 s6 : Slot), Γ = [.val (.lst (ns.map .int)), .val (.dit es), s2, s3, s4, s5, s6]) ⟨_, _, _, _, _, rfl⟩ ?_ ?_
  · rintro i d Γ hd ⟨s2, s3, s4, s5, s6, rfl⟩
    unfold rngL at hd
    rw [List.getElem?_map] at hd
    cases hc : (List.range (Builtin.Range.rangeSize 6 ((if (62 : Int) < ↑ns.length then 62 else ↑ns.length) - 3) 4).toNat)[i]? with
    | none => rw [hc] at hd; cases hd
    | some k =>
      have hi := (List.getElem?_eq_some_iff.mp hc).1
      rw [List.length_range] at hi
      rw [List.getElem?_range hi] at hc
      cases hc
      rw [List.getElem?_range hi] at hd
      cases hd
      have hb : 6 + i * 4 + 3 < ns.length := by
        unfold Builtin.Range.rangeSize at hi
        split at hi
        · split at hi <;> split at hi <;> omega
        · omega
      have at_ : ∀ j : Nat, j < ns.length → atI (ns.map D.int) (j : Int) = some (.int (ns.getD j 0)) := fun j hj => atI_nat (by simp [hj])
      have a0 : atI (ns.map D.int) (6 + (i : Int) * 4) = some (.int (ns.getD (6 + i * 4) 0)) := by have := at_ (6 + i * 4) (by omega); simpa using this
      have a1 : atI (ns.map D.int) (6 + (i : Int) * 4 + 1) = some (.int (ns.getD (6 + i * 4 + 1) 0)) := by have := at_ (6 + i * 4 + 1) (by omega); simpa using this
      have a2 : atI (ns.map D.int) (6 + (i : Int) * 4 + 2) = some (.int (ns.getD (6 + i * 4 + 2) 0)) := by have := at_ (6 + i * 4 + 2) (by omega); simpa using this
      have a3 : atI (ns.map D.int) (6 + (i : Int) * 4 + 3) = some (.int (ns.getD (6 + i * 4 + 3) 0)) := by have := at_ (6 + i * 4 + 3) (by omega); simpa using this
      simp [tSeq', tRet', tIfS', tAsg', gName', tVar', tC', tFrz, tOp', tB', tNot', tAnd', tOr', tAndV', tOrV', tNotV', tIf', tNil', tCons', tTup', tLst', tCB', tBM', tSl', tNoB', tB1', tChain', tFor', iSeq', iRng1', iRng2', iRng3', tComp', tCall', tYes, tNext', tDict1, tFld', tMake', tGet2', tLook, tLookT, tApp', tDPutT, tAsgO', tRetV', tDispT, tCBO', lookΓ, thaw, iKeys', tPop', tDrop', a0, a1, a2, a3, -List.getD_eq_getElem?_getD]
      refine ⟨es, _, _, rfl, hes, fun c1 h1 => ?_⟩
      refine ⟨es, _, _, rfl, hes, fun c2 h2 => ?_⟩
      refine ⟨c1, rfl, c2, rfl, c1, c2, rfl, h1, h2, c2, rfl, c1, rfl, c2, c1, rfl, h2, h1, ?_⟩
      simp
      refine ⟨c1, c2, rfl, h1, h2, ?_⟩
      rw [← apart_eq]
      simp [apart_symm (kindOf c2) (goalOf c2)]
  · rintro Γ ⟨s2, s3, s4, s5, s6, rfl⟩
    simp [tSeq', tRet', tIfS', tAsg', gName', tVar', tC', tFrz, tOp', tB', tNot', tAnd', tOr', tAndV', tOrV', tNotV', tIf', tNil', tCons', tTup', tLst', tCB', tBM', tSl', tNoB', tB1', tChain', tFor', iSeq', iRng1', iRng2', iRng3', tComp', tCall', tYes, tNext', tDict1, tFld', tMake', tGet2', tLook, tLookT, tApp', tDPutT, tAsgO', tRetV', tDispT, tCBO', lookΓ, thaw, iKeys', tPop', tDrop']
    exact hq
theorem sc_Swap : FnScope ["self", "place", "old", "new"] ["self", "place", "old", "new"] (defScope s_Swap_init) := ⟨rfl, rfl, rfl, by decide +kernel, rfl, by decide +kernel, by decide +kernel⟩
theorem init_Swap {f C : Addr} {fd : FuncData} (F : Fun K "__init__" "Swap.__init__" s_Swap_init f fd) (cl : Cls K C) (n1 : NoAttr K C "place") (n2 : NoAttr K C "old") (n3 : NoAttr K C "new") : FnOk P w K mg base CX0 1 f fd ["self", "place", "old", "new"] (spInit C ["place", "old", "new"]) := by
  refine F.ok sc_Swap (fun vs H Q E h => ?_) (fun cdv A outer s H vs Q E hr h => ?_)
  · obtain ⟨a, dx, us, rfl, hl, _⟩ := h
    simpa using hl
  · obtain ⟨a, dx, us, rfl, hl, ha, k⟩ := h
    obtain ⟨v1, v2, v3, rfl⟩ : ∃ v1 v2 v3, us = [v1, v2, v3] := by
      match us, hl with
      | [v1, v2, v3], _ => exact ⟨v1, v2, v3, rfl⟩
    refine ⟨_, (pss_cons (ps_fld (pv 0) (pv 1) rfl) (pss_cons (ps_fld (pv 0) (pv 2) rfl) (pss_one (ps_fld (pv 0) (pv 3) rfl)))), ?_⟩
    refine ⟨_, rfl, _, rfl, a, C, dx, _, rfl, ha, cl, n1, (by show 0 < 1000; decide), _, rfl, _, rfl, a, C, dx, _, rfl, upd_same, cl, n2, (by show 1 < 1000; decide), _, rfl, _, rfl, a, C, dx, _, rfl, upd_same, cl, n3, (by show 2 < 1000; decide), ?_⟩
    have e : putF "new" v3 (putF "old" v2 (putF "place" v1 ([]))) = List.zip (["place", "old", "new"] : List Str) [v1, v2, v3] := by
      have q1 : ¬ ("place" : Str) = "old" := by decide +kernel
      have q2 : ¬ ("place" : Str) = "new" := by decide +kernel
      have q3 : ¬ ("old" : Str) = "new" := by decide +kernel
      simp only [putF, if_neg q1, if_neg q2, if_neg q3]
      rfl
    simp only [upd_upd]
    exact e ▸ k
theorem sc_Read : FnScope ["self", "place", "words"] ["self", "place", "words"] (defScope s_Read_init) := ⟨rfl, rfl, rfl, by decide +kernel, rfl, by decide +kernel, by decide +kernel⟩
theorem init_Read {f C : Addr} {fd : FuncData} (F : Fun K "__init__" "Read.__init__" s_Read_init f fd) (cl : Cls K C) (n1 : NoAttr K C "place") (n2 : NoAttr K C "words") : FnOk P w K mg base CX0 1 f fd ["self", "place", "words"] (spInit C ["place", "words"]) := by
  refine F.ok sc_Read (fun vs H Q E h => ?_) (fun cdv A outer s H vs Q E hr h => ?_)
  · obtain ⟨a, dx, us, rfl, hl, _⟩ := h
    simpa using hl
  · obtain ⟨a, dx, us, rfl, hl, ha, k⟩ := h
    obtain ⟨v1, v2, rfl⟩ : ∃ v1 v2, us = [v1, v2] := by
      match us, hl with
      | [v1, v2], _ => exact ⟨v1, v2, rfl⟩
    refine ⟨_, (pss_cons (ps_fld (pv 0) (pv 1) rfl) (pss_one (ps_fld (pv 0) (pv 2) rfl))), ?_⟩
    refine ⟨_, rfl, _, rfl, a, C, dx, _, rfl, ha, cl, n1, (by show 0 < 1000; decide), _, rfl, _, rfl, a, C, dx, _, rfl, upd_same, cl, n2, (by show 1 < 1000; decide), ?_⟩
    have e : putF "words" v2 (putF "place" v1 ([])) = List.zip (["place", "words"] : List Str) [v1, v2] := by
      have q1 : ¬ ("place" : Str) = "words" := by decide +kernel
      simp only [putF, if_neg q1]
      rfl
    simp only [upd_upd]
    exact e ▸ k
theorem sc_PutIn : FnScope ["self", "place", "node"] ["self", "place", "node"] (defScope s_PutIn_init) := ⟨rfl, rfl, rfl, by decide +kernel, rfl, by decide +kernel, by decide +kernel⟩
theorem init_PutIn {f C : Addr} {fd : FuncData} (F : Fun K "__init__" "PutIn.__init__" s_PutIn_init f fd) (cl : Cls K C) (n1 : NoAttr K C "place") (n2 : NoAttr K C "node") : FnOk P w K mg base CX0 1 f fd ["self", "place", "node"] (spInit C ["place", "node"]) := by
  refine F.ok sc_PutIn (fun vs H Q E h => ?_) (fun cdv A outer s H vs Q E hr h => ?_)
  · obtain ⟨a, dx, us, rfl, hl, _⟩ := h
    simpa using hl
  · obtain ⟨a, dx, us, rfl, hl, ha, k⟩ := h
    obtain ⟨v1, v2, rfl⟩ : ∃ v1 v2, us = [v1, v2] := by
      match us, hl with
      | [v1, v2], _ => exact ⟨v1, v2, rfl⟩
    refine ⟨_, (pss_cons (ps_fld (pv 0) (pv 1) rfl) (pss_one (ps_fld (pv 0) (pv 2) rfl))), ?_⟩
    refine ⟨_, rfl, _, rfl, a, C, dx, _, rfl, ha, cl, n1, (by show 0 < 1000; decide), _, rfl, _, rfl, a, C, dx, _, rfl, upd_same, cl, n2, (by show 1 < 1000; decide), ?_⟩
    have e : putF "node" v2 (putF "place" v1 ([])) = List.zip (["place", "node"] : List Str) [v1, v2] := by
      have q1 : ¬ ("place" : Str) = "node" := by decide +kernel
      simp only [putF, if_neg q1]
      rfl
    simp only [upd_upd]
    exact e ▸ k
theorem sc_LeaveOut : FnScope ["self", "place"] ["self", "place"] (defScope s_LeaveOut_init) := ⟨rfl, rfl, rfl, by decide +kernel, rfl, by decide +kernel, by decide +kernel⟩
theorem init_LeaveOut {f C : Addr} {fd : FuncData} (F : Fun K "__init__" "LeaveOut.__init__" s_LeaveOut_init f fd) (cl : Cls K C) (n1 : NoAttr K C "place") : FnOk P w K mg base CX0 1 f fd ["self", "place"] (spInit C ["place"]) := by
  refine F.ok sc_LeaveOut (fun vs H Q E h => ?_) (fun cdv A outer s H vs Q E hr h => ?_)
  · obtain ⟨a, dx, us, rfl, hl, _⟩ := h
    simpa using hl
  · obtain ⟨a, dx, us, rfl, hl, ha, k⟩ := h
    obtain ⟨v1, rfl⟩ : ∃ v1, us = [v1] := by
      match us, hl with
      | [v1], _ => exact ⟨v1, rfl⟩
    refine ⟨_, (pss_one (ps_fld (pv 0) (pv 1) rfl)), ?_⟩
    refine ⟨_, rfl, _, rfl, a, C, dx, _, rfl, ha, cl, n1, (by show 0 < 1000; decide), ?_⟩
    have e : putF "place" v1 ([]) = List.zip (["place"] : List Str) [v1] := by
      rw [putF_new (by decide +kernel)]
      rfl
    exact e ▸ k
theorem sc_Anew : FnScope ["self", "place"] ["self", "place"] (defScope s_Anew_init) := ⟨rfl, rfl, rfl, by decide +kernel, rfl, by decide +kernel, by decide +kernel⟩
theorem init_Anew {f C : Addr} {fd : FuncData} (F : Fun K "__init__" "Anew.__init__" s_Anew_init f fd) (cl : Cls K C) (n1 : NoAttr K C "place") : FnOk P w K mg base CX0 1 f fd ["self", "place"] (spInit C ["place"]) := by
  refine F.ok sc_Anew (fun vs H Q E h => ?_) (fun cdv A outer s H vs Q E hr h => ?_)
  · obtain ⟨a, dx, us, rfl, hl, _⟩ := h
    simpa using hl
  · obtain ⟨a, dx, us, rfl, hl, ha, k⟩ := h
    obtain ⟨v1, rfl⟩ : ∃ v1, us = [v1] := by
      match us, hl with
      | [v1], _ => exact ⟨v1, rfl⟩
    refine ⟨_, (pss_one (ps_fld (pv 0) (pv 1) rfl)), ?_⟩
    refine ⟨_, rfl, _, rfl, a, C, dx, _, rfl, ha, cl, n1, (by show 0 < 1000; decide), ?_⟩
    have e : putF "place" v1 ([]) = List.zip (["place"] : List Str) [v1] := by
      rw [putF_new (by decide +kernel)]
      rfl
    exact e ▸ k
end

end K24

namespace K24
open PySem L2 Lb PL M24
theorem all_mk {l : PySem.W.OpenLaw} {w : World} {K : PySem.W.Frag} {h : Heap} {mg : Str → Option Value} {fa f1 f2 f3 f4 f5 f6 f7 f8 f9 f10 f11 f12 f13 f14 f15 f16 C1 C2 C3 C4 C5 j1 j2 j3 j4 j5 : Addr} (X : K.In h) (G : h.Ns mainGlobals mg) (hfa : mg "law" = some (.ref fa))
    {od1 an1 od2 an2 od3 an3 od4 an4 od5 an5 od6 an6 od7 an7 od8 an8 od9 an9 od10 an10 od11 an11 od12 an12 od13 an13 od14 an14 od15 an15 od16 an16 jd1 jn1 jd2 jn2 jd3 jn3 jd4 jn4 jd5 jn5 : Option Addr} {sl1 sl2 sl3 sl4 sl5 sl6 sl7 sl8 sl9 sl10 sl11 sl12 sl13 sl14 sl15 sl16 js1 js2 js3 js4 js5 : Array (Option Value)} {oc1 kV1 dc1 pm1 cd1 ct1 oc2 kV2 dc2 pm2 cd2 ct2 oc3 kV3 dc3 pm3 cd3 ct3 oc4 kV4 dc4 pm4 cd4 ct4 oc5 kV5 dc5 pm5 cd5 ct5 oc6 kV6 dc6 pm6 cd6 ct6 oc7 kV7 dc7 pm7 cd7 ct7 oc8 kV8 dc8 pm8 cd8 ct8 oc9 kV9 dc9 pm9 cd9 ct9 oc10 kV10 dc10 pm10 cd10 ct10 oc11 kV11 dc11 pm11 cd11 ct11 oc12 kV12 dc12 pm12 cd12 ct12 oc13 kV13 dc13 pm13 cd13 ct13 oc14 kV14 dc14 pm14 cd14 ct14 oc15 kV15 dc15 pm15 cd15 ct15 oc16 kV16 dc16 pm16 cd16 ct16 jc1 jk1 jo1 jm1 je1 jt1 jc2 jk2 jo2 jm2 je2 jt2 jc3 jk3 jo3 jm3 je3 jt3 jc4 jk4 jo4 jm4 je4 jt4 jc5 jk5 jo5 jm5 je5 jt5 : Value}
    {x1 : Str} {t1 : Tok} {x2 : Str} {t2 : Tok} {x3 : Str} {t3 : Tok}
    (a1 : PySem.W.nsIn K mainGlobals "part_of" = some (some (.ref f1))) (l1 : K.lookup f1 = some ⟨oc1, od1, .func (PySem.W.fnOf "part_of" "part_of" (defArgs s_part_of) (defBody s_part_of) (defScope s_part_of) .none kV1 dc1 pm1 an1 cd1 ct1), sl1⟩) (c1 : PySem.W.codeIn K cd1 "part_of" = true) (k1 : PySem.W.keepIn K (.ref f1) = true)
    (a2 : PySem.W.nsIn K mainGlobals "is_at_or_above" = some (some (.ref f2))) (l2 : K.lookup f2 = some ⟨oc2, od2, .func (PySem.W.fnOf "is_at_or_above" "is_at_or_above" (defArgs s_is_at_or_above) (defBody s_is_at_or_above) (defScope s_is_at_or_above) .none kV2 dc2 pm2 an2 cd2 ct2), sl2⟩) (c2 : PySem.W.codeIn K cd2 "is_at_or_above" = true) (k2 : PySem.W.keepIn K (.ref f2) = true)
    (a3 : PySem.W.nsIn K mainGlobals "_law_label" = some (some (.ref f3))) (l3 : K.lookup f3 = some ⟨oc3, od3, .func (PySem.W.fnOf "_law_label" "_law_label" (defArgs s_law_label) (defBody s_law_label) (defScope s_law_label) .none kV3 dc3 pm3 an3 cd3 ct3), sl3⟩) (c3 : PySem.W.codeIn K cd3 "_law_label" = true) (k3 : PySem.W.keepIn K (.ref f3) = true)
    (a4 : PySem.W.nsIn K mainGlobals "_law_word" = some (some (.ref f4))) (l4 : K.lookup f4 = some ⟨oc4, od4, .func (PySem.W.fnOf "_law_word" "_law_word" (defArgs s_law_word) (defBody s_law_word) (defScope s_law_word) .none kV4 dc4 pm4 an4 cd4 ct4), sl4⟩) (c4 : PySem.W.codeIn K cd4 "_law_word" = true) (k4 : PySem.W.keepIn K (.ref f4) = true)
    (a5 : PySem.W.nsIn K mainGlobals "_law_goal" = some (some (.ref f5))) (l5 : K.lookup f5 = some ⟨oc5, od5, .func (PySem.W.fnOf "_law_goal" "_law_goal" (defArgs s_law_goal) (defBody s_law_goal) (defScope s_law_goal) .none kV5 dc5 pm5 an5 cd5 ct5), sl5⟩) (c5 : PySem.W.codeIn K cd5 "_law_goal" = true) (k5 : PySem.W.keepIn K (.ref f5) = true)
    (a6 : PySem.W.nsIn K mainGlobals "has_words_of" = some (some (.ref f6))) (l6 : K.lookup f6 = some ⟨oc6, od6, .func (PySem.W.fnOf "has_words_of" "has_words_of" (defArgs s_has_words_of) (defBody s_has_words_of) (defScope s_has_words_of) .none kV6 dc6 pm6 an6 cd6 ct6), sl6⟩) (c6 : PySem.W.codeIn K cd6 "has_words_of" = true) (k6 : PySem.W.keepIn K (.ref f6) = true)
    (a7 : PySem.W.nsIn K mainGlobals "_law_words" = some (some (.ref f7))) (l7 : K.lookup f7 = some ⟨oc7, od7, .func (PySem.W.fnOf "_law_words" "_law_words" (defArgs s_law_words) (defBody s_law_words) (defScope s_law_words) .none kV7 dc7 pm7 an7 cd7 ct7), sl7⟩) (c7 : PySem.W.codeIn K cd7 "_law_words" = true) (k7 : PySem.W.keepIn K (.ref f7) = true)
    (a8 : PySem.W.nsIn K mainGlobals "_law_place" = some (some (.ref f8))) (l8 : K.lookup f8 = some ⟨oc8, od8, .func (PySem.W.fnOf "_law_place" "_law_place" (defArgs s_law_place) (defBody s_law_place) (defScope s_law_place) .none kV8 dc8 pm8 an8 cd8 ct8), sl8⟩) (c8 : PySem.W.codeIn K cd8 "_law_place" = true) (k8 : PySem.W.keepIn K (.ref f8) = true)
    (a9 : PySem.W.nsIn K mainGlobals "_law_touches" = some (some (.ref f9))) (l9 : K.lookup f9 = some ⟨oc9, od9, .func (PySem.W.fnOf "_law_touches" "_law_touches" (defArgs s_law_touches) (defBody s_law_touches) (defScope s_law_touches) .none kV9 dc9 pm9 an9 cd9 ct9), sl9⟩) (c9 : PySem.W.codeIn K cd9 "_law_touches" = true) (k9 : PySem.W.keepIn K (.ref f9) = true)
    (a10 : PySem.W.nsIn K mainGlobals "have_common" = some (some (.ref f10))) (l10 : K.lookup f10 = some ⟨oc10, od10, .func (PySem.W.fnOf "have_common" "have_common" (defArgs s_have_common) (defBody s_have_common) (defScope s_have_common) .none kV10 dc10 pm10 an10 cd10 ct10), sl10⟩) (c10 : PySem.W.codeIn K cd10 "have_common" = true) (k10 : PySem.W.keepIn K (.ref f10) = true)
    (a11 : PySem.W.nsIn K mainGlobals "_law_nodes" = some (some (.ref f11))) (l11 : K.lookup f11 = some ⟨oc11, od11, .func (PySem.W.fnOf "_law_nodes" "_law_nodes" (defArgs s_law_nodes) (defBody s_law_nodes) (defScope s_law_nodes) .none kV11 dc11 pm11 an11 cd11 ct11), sl11⟩) (c11 : PySem.W.codeIn K cd11 "_law_nodes" = true) (k11 : PySem.W.keepIn K (.ref f11) = true)
    (a12 : PySem.W.nsIn K mainGlobals "_law_change" = some (some (.ref f12))) (l12 : K.lookup f12 = some ⟨oc12, od12, .func (PySem.W.fnOf "_law_change" "_law_change" (defArgs s_law_change) (defBody s_law_change) (defScope s_law_change) .none kV12 dc12 pm12 an12 cd12 ct12), sl12⟩) (c12 : PySem.W.codeIn K cd12 "_law_change" = true) (k12 : PySem.W.keepIn K (.ref f12) = true)
    (a13 : PySem.W.nsIn K mainGlobals "_law_made" = some (some (.ref f13))) (l13 : K.lookup f13 = some ⟨oc13, od13, .func (PySem.W.fnOf "_law_made" "_law_made" (defArgs s_law_made) (defBody s_law_made) (defScope s_law_made) .none kV13 dc13 pm13 an13 cd13 ct13), sl13⟩) (c13 : PySem.W.codeIn K cd13 "_law_made" = true) (k13 : PySem.W.keepIn K (.ref f13) = true)
    (a14 : PySem.W.nsIn K mainGlobals "_law_apart" = some (some (.ref f14))) (l14 : K.lookup f14 = some ⟨oc14, od14, .func (PySem.W.fnOf "_law_apart" "_law_apart" (defArgs s_law_apart) (defBody s_law_apart) (defScope s_law_apart) .none kV14 dc14 pm14 an14 cd14 ct14), sl14⟩) (c14 : PySem.W.codeIn K cd14 "_law_apart" = true) (k14 : PySem.W.keepIn K (.ref f14) = true)
    (a15 : PySem.W.nsIn K mainGlobals "are_apart" = some (some (.ref f15))) (l15 : K.lookup f15 = some ⟨oc15, od15, .func (PySem.W.fnOf "are_apart" "are_apart" (defArgs s_are_apart) (defBody s_are_apart) (defScope s_are_apart) .none kV15 dc15 pm15 an15 cd15 ct15), sl15⟩) (c15 : PySem.W.codeIn K cd15 "are_apart" = true) (k15 : PySem.W.keepIn K (.ref f15) = true)
    (a16 : PySem.W.nsIn K mainGlobals "law" = some (some (.ref f16))) (l16 : K.lookup f16 = some ⟨oc16, od16, .func (PySem.W.fnOf "law" "law" (defArgs s_law) (defBody s_law) (defScope s_law) .none kV16 dc16 pm16 an16 cd16 ct16), sl16⟩) (c16 : PySem.W.codeIn K cd16 "law" = true) (k16 : PySem.W.keepIn K (.ref f16) = true)
    (z1 : PySem.W.nsIn K mainGlobals "bool" = some none)
    (z2 : PySem.W.nsIn K mainGlobals "isinstance" = some none)
    (z3 : PySem.W.nsIn K mainGlobals "len" = some none)
    (z4 : PySem.W.nsIn K mainGlobals "list" = some none)
    (z5 : PySem.W.nsIn K mainGlobals "min" = some none)
    (z6 : PySem.W.nsIn K mainGlobals "range" = some none)
    (z7 : PySem.W.nsIn K mainGlobals "str" = some none)
    (z8 : PySem.W.nsIn K mainGlobals "tuple" = some none)
    (g1 : PySem.W.nsIn K mainGlobals "BENEATH" = some (some (.str x1 t1))) (e1 : x1 = st [98, 101, 110, 101, 97, 116, 104])
    (g2 : PySem.W.nsIn K mainGlobals "FROM_ON" = some (some (.str x2 t2))) (e2 : x2 = st [102, 114, 111, 109, 32, 111, 110])
    (g3 : PySem.W.nsIn K mainGlobals "WORDS" = some (some (.str x3 t3))) (e3 : x3 = st [119, 111, 114, 100, 115])
    (aC1 : PySem.W.nsIn K mainGlobals "Swap" = some (some (.ref C1))) (aI1 : PySem.W.findIn K (.ref C1) "__init__" = some (some (.ref j1))) (iI1 : PySem.W.isFn K (.ref j1) = true)
    (lI1 : K.lookup j1 = some ⟨jc1, jd1, .func (PySem.W.fnOf "__init__" "Swap.__init__" (defArgs s_Swap_init) (defBody s_Swap_init) (defScope s_Swap_init) .none jk1 jo1 jm1 jn1 je1 jt1), js1⟩) (cI1 : PySem.W.codeIn K je1 "Swap.__init__" = true) (kI1 : PySem.W.keepIn K (.ref j1) = true)
    (pg1 : PySem.W.plainGet K C1 Str.empty = true) (hd1 : PySem.W.hasDictIn K C1 = true) (po1 : PySem.W.plainOver K C1 = true) (sa1 : PySem.W.findIn K (.ref C1) "__setattr__" = some (some (.builtin "object.__setattr__"))) (mk1 : PySem.W.makesIn K C1 = true) (kc1 : PySem.W.keepIn K (.ref C1) = true)
    (ha1 : PySem.W.findIn K (.ref C1) "__class__" = some (some (.builtin "object.__class__"))) (hm1 : PySem.W.mroIn K C1 (.type "object") = some true)
    (ty1 : PySem.W.typeIn K (.ref C1) = some (.type "type"))
    (n1_1 : PySem.W.findIn K (.ref C1) "place" = some none)
    (n1_2 : PySem.W.findIn K (.ref C1) "old" = some none)
    (n1_3 : PySem.W.findIn K (.ref C1) "new" = some none)
    (aC2 : PySem.W.nsIn K mainGlobals "Read" = some (some (.ref C2))) (aI2 : PySem.W.findIn K (.ref C2) "__init__" = some (some (.ref j2))) (iI2 : PySem.W.isFn K (.ref j2) = true)
    (lI2 : K.lookup j2 = some ⟨jc2, jd2, .func (PySem.W.fnOf "__init__" "Read.__init__" (defArgs s_Read_init) (defBody s_Read_init) (defScope s_Read_init) .none jk2 jo2 jm2 jn2 je2 jt2), js2⟩) (cI2 : PySem.W.codeIn K je2 "Read.__init__" = true) (kI2 : PySem.W.keepIn K (.ref j2) = true)
    (pg2 : PySem.W.plainGet K C2 Str.empty = true) (hd2 : PySem.W.hasDictIn K C2 = true) (po2 : PySem.W.plainOver K C2 = true) (sa2 : PySem.W.findIn K (.ref C2) "__setattr__" = some (some (.builtin "object.__setattr__"))) (mk2 : PySem.W.makesIn K C2 = true) (kc2 : PySem.W.keepIn K (.ref C2) = true)
    (ha2 : PySem.W.findIn K (.ref C2) "__class__" = some (some (.builtin "object.__class__"))) (hm2 : PySem.W.mroIn K C2 (.type "object") = some true)
    (ty2 : PySem.W.typeIn K (.ref C2) = some (.type "type"))
    (n2_1 : PySem.W.findIn K (.ref C2) "place" = some none)
    (n2_2 : PySem.W.findIn K (.ref C2) "words" = some none)
    (aC3 : PySem.W.nsIn K mainGlobals "PutIn" = some (some (.ref C3))) (aI3 : PySem.W.findIn K (.ref C3) "__init__" = some (some (.ref j3))) (iI3 : PySem.W.isFn K (.ref j3) = true)
    (lI3 : K.lookup j3 = some ⟨jc3, jd3, .func (PySem.W.fnOf "__init__" "PutIn.__init__" (defArgs s_PutIn_init) (defBody s_PutIn_init) (defScope s_PutIn_init) .none jk3 jo3 jm3 jn3 je3 jt3), js3⟩) (cI3 : PySem.W.codeIn K je3 "PutIn.__init__" = true) (kI3 : PySem.W.keepIn K (.ref j3) = true)
    (pg3 : PySem.W.plainGet K C3 Str.empty = true) (hd3 : PySem.W.hasDictIn K C3 = true) (po3 : PySem.W.plainOver K C3 = true) (sa3 : PySem.W.findIn K (.ref C3) "__setattr__" = some (some (.builtin "object.__setattr__"))) (mk3 : PySem.W.makesIn K C3 = true) (kc3 : PySem.W.keepIn K (.ref C3) = true)
    (ha3 : PySem.W.findIn K (.ref C3) "__class__" = some (some (.builtin "object.__class__"))) (hm3 : PySem.W.mroIn K C3 (.type "object") = some true)
    (ty3 : PySem.W.typeIn K (.ref C3) = some (.type "type"))
    (n3_1 : PySem.W.findIn K (.ref C3) "place" = some none)
    (n3_2 : PySem.W.findIn K (.ref C3) "node" = some none)
    (aC4 : PySem.W.nsIn K mainGlobals "LeaveOut" = some (some (.ref C4))) (aI4 : PySem.W.findIn K (.ref C4) "__init__" = some (some (.ref j4))) (iI4 : PySem.W.isFn K (.ref j4) = true)
    (lI4 : K.lookup j4 = some ⟨jc4, jd4, .func (PySem.W.fnOf "__init__" "LeaveOut.__init__" (defArgs s_LeaveOut_init) (defBody s_LeaveOut_init) (defScope s_LeaveOut_init) .none jk4 jo4 jm4 jn4 je4 jt4), js4⟩) (cI4 : PySem.W.codeIn K je4 "LeaveOut.__init__" = true) (kI4 : PySem.W.keepIn K (.ref j4) = true)
    (pg4 : PySem.W.plainGet K C4 Str.empty = true) (hd4 : PySem.W.hasDictIn K C4 = true) (po4 : PySem.W.plainOver K C4 = true) (sa4 : PySem.W.findIn K (.ref C4) "__setattr__" = some (some (.builtin "object.__setattr__"))) (mk4 : PySem.W.makesIn K C4 = true) (kc4 : PySem.W.keepIn K (.ref C4) = true)
    (ha4 : PySem.W.findIn K (.ref C4) "__class__" = some (some (.builtin "object.__class__"))) (hm4 : PySem.W.mroIn K C4 (.type "object") = some true)
    (ty4 : PySem.W.typeIn K (.ref C4) = some (.type "type"))
    (n4_1 : PySem.W.findIn K (.ref C4) "place" = some none)
    (aC5 : PySem.W.nsIn K mainGlobals "Anew" = some (some (.ref C5))) (aI5 : PySem.W.findIn K (.ref C5) "__init__" = some (some (.ref j5))) (iI5 : PySem.W.isFn K (.ref j5) = true)
    (lI5 : K.lookup j5 = some ⟨jc5, jd5, .func (PySem.W.fnOf "__init__" "Anew.__init__" (defArgs s_Anew_init) (defBody s_Anew_init) (defScope s_Anew_init) .none jk5 jo5 jm5 jn5 je5 jt5), js5⟩) (cI5 : PySem.W.codeIn K je5 "Anew.__init__" = true) (kI5 : PySem.W.keepIn K (.ref j5) = true)
    (pg5 : PySem.W.plainGet K C5 Str.empty = true) (hd5 : PySem.W.hasDictIn K C5 = true) (po5 : PySem.W.plainOver K C5 = true) (sa5 : PySem.W.findIn K (.ref C5) "__setattr__" = some (some (.builtin "object.__setattr__"))) (mk5 : PySem.W.makesIn K C5 = true) (kc5 : PySem.W.keepIn K (.ref C5) = true)
    (ha5 : PySem.W.findIn K (.ref C5) "__class__" = some (some (.builtin "object.__class__"))) (hm5 : PySem.W.mroIn K C5 (.type "object") = some true)
    (ty5 : PySem.W.typeIn K (.ref C5) = some (.type "type"))
    (n5_1 : PySem.W.findIn K (.ref C5) "place" = some none)
    (hn : PySem.W.specialIn K (.builtin "object.__class__") "__get__" = some (some (.builtin "getset_descriptor.__get__"))) (htk : PySem.W.takesIn K (.builtin "object.__class__") = some true)
    (q1 : PySem.W.mroIn K C1 (.ref C3) = some false)
    (r1 : (Value.ref C1 == Value.ref C3) = false)
    (q2 : PySem.W.mroIn K C1 (.ref C4) = some false)
    (r2 : (Value.ref C1 == Value.ref C4) = false)
    (q3 : PySem.W.mroIn K C1 (.ref C5) = some false)
    (r3 : (Value.ref C1 == Value.ref C5) = false)
    (q4 : PySem.W.mroIn K C2 (.ref C3) = some false)
    (r4 : (Value.ref C2 == Value.ref C3) = false)
    (q5 : PySem.W.mroIn K C2 (.ref C4) = some false)
    (r5 : (Value.ref C2 == Value.ref C4) = false)
    (q6 : PySem.W.mroIn K C2 (.ref C5) = some false)
    (r6 : (Value.ref C2 == Value.ref C5) = false)
    (q7 : PySem.W.mroIn K C3 (.ref C3) = some true)
    (q8 : PySem.W.mroIn K C4 (.ref C3) = some false)
    (r8 : (Value.ref C4 == Value.ref C3) = false)
    (q9 : PySem.W.mroIn K C4 (.ref C4) = some true)
    (q10 : PySem.W.mroIn K C5 (.ref C3) = some false)
    (r10 : (Value.ref C5 == Value.ref C3) = false)
    (q11 : PySem.W.mroIn K C5 (.ref C4) = some false)
    (r11 : (Value.ref C5 == Value.ref C4) = false)
    (q12 : PySem.W.mroIn K C5 (.ref C5) = some true)
    :
    ∃ fd : FuncData, (∀ (s : Shared) (v : Value), BindsTo s fd ⟨[v], []⟩ [("_law_script", v)]) ∧ ∀ base : Heap, K.In base → base.Ns mainGlobals mg → FnOk l.prog w K mg base CX0 5 fa fd ["_law_script"] (spOf K spLaw) := by
  subst e1
  subst e2
  subst e3
  have F1 := fun_mk (st := s_part_of) l1 c1 k1
  have m1 := PySem.W.mg_of X G a1
  have b1 := F1.binds (ps := ["change"]) fun _ _ _ _ _ _ us hl => match us, hl with | [_], _ => rfl
  have d1 : Df K mg "part_of" s_part_of ["change"] := ⟨f1, _, F1, b1, m1⟩
  have F2 := fun_mk (st := s_is_at_or_above) l2 c2 k2
  have m2 := PySem.W.mg_of X G a2
  have b2 := F2.binds (ps := ["place", "lower"]) fun _ _ _ _ _ _ us hl => match us, hl with | [_, _], _ => rfl
  have d2 : Df K mg "is_at_or_above" s_is_at_or_above ["place", "lower"] := ⟨f2, _, F2, b2, m2⟩
  have F3 := fun_mk (st := s_law_label) l3 c3 k3
  have m3 := PySem.W.mg_of X G a3
  have b3 := F3.binds (ps := ["_law_cell"]) fun _ _ _ _ _ _ us hl => match us, hl with | [_], _ => rfl
  have d3 : Df K mg "_law_label" s_law_label ["_law_cell"] := ⟨f3, _, F3, b3, m3⟩
  have F4 := fun_mk (st := s_law_word) l4 c4 k4
  have m4 := PySem.W.mg_of X G a4
  have b4 := F4.binds (ps := ["_law_cell"]) fun _ _ _ _ _ _ us hl => match us, hl with | [_], _ => rfl
  have d4 : Df K mg "_law_word" s_law_word ["_law_cell"] := ⟨f4, _, F4, b4, m4⟩
  have F5 := fun_mk (st := s_law_goal) l5 c5 k5
  have m5 := PySem.W.mg_of X G a5
  have b5 := F5.binds (ps := ["_law_one"]) fun _ _ _ _ _ _ us hl => match us, hl with | [_], _ => rfl
  have d5 : Df K mg "_law_goal" s_law_goal ["_law_one"] := ⟨f5, _, F5, b5, m5⟩
  have F6 := fun_mk (st := s_has_words_of) l6 c6 k6
  have m6 := PySem.W.mg_of X G a6
  have b6 := F6.binds (ps := ["part", "place"]) fun _ _ _ _ _ _ us hl => match us, hl with | [_, _], _ => rfl
  have d6 : Df K mg "has_words_of" s_has_words_of ["part", "place"] := ⟨f6, _, F6, b6, m6⟩
  have F7 := fun_mk (st := s_law_words) l7 c7 k7
  have m7 := PySem.W.mg_of X G a7
  have b7 := F7.binds (ps := ["_law_cell"]) fun _ _ _ _ _ _ us hl => match us, hl with | [_], _ => rfl
  have d7 : Df K mg "_law_words" s_law_words ["_law_cell"] := ⟨f7, _, F7, b7, m7⟩
  have F8 := fun_mk (st := s_law_place) l8 c8 k8
  have m8 := PySem.W.mg_of X G a8
  have b8 := F8.binds (ps := ["_law_nodes_here", "_law_cell"]) fun _ _ _ _ _ _ us hl => match us, hl with | [_, _], _ => rfl
  have d8 : Df K mg "_law_place" s_law_place ["_law_nodes_here", "_law_cell"] := ⟨f8, _, F8, b8, m8⟩
  have F9 := fun_mk (st := s_law_touches) l9 c9 k9
  have m9 := PySem.W.mg_of X G a9
  have b9 := F9.binds (ps := ["_law_one", "_law_place_here", "_law_label_here"]) fun _ _ _ _ _ _ us hl => match us, hl with | [_, _, _], _ => rfl
  have d9 : Df K mg "_law_touches" s_law_touches ["_law_one", "_law_place_here", "_law_label_here"] := ⟨f9, _, F9, b9, m9⟩
  have F10 := fun_mk (st := s_have_common) l10 c10 k10
  have m10 := PySem.W.mg_of X G a10
  have b10 := F10.binds (ps := ["one", "other"]) fun _ _ _ _ _ _ us hl => match us, hl with | [_, _], _ => rfl
  have d10 : Df K mg "have_common" s_have_common ["one", "other"] := ⟨f10, _, F10, b10, m10⟩
  have F11 := fun_mk (st := s_law_nodes) l11 c11 k11
  have m11 := PySem.W.mg_of X G a11
  have b11 := F11.binds (ps := ["_law_cells"]) fun _ _ _ _ _ _ us hl => match us, hl with | [_], _ => rfl
  have d11 : Df K mg "_law_nodes" s_law_nodes ["_law_cells"] := ⟨f11, _, F11, b11, m11⟩
  have F12 := fun_mk (st := s_law_change) l12 c12 k12
  have m12 := PySem.W.mg_of X G a12
  have b12 := F12.binds (ps := ["_law_nodes_here", "_law_cell", "_law_more"]) fun _ _ _ _ _ _ us hl => match us, hl with | [_, _, _], _ => rfl
  have d12 : Df K mg "_law_change" s_law_change ["_law_nodes_here", "_law_cell", "_law_more"] := ⟨f12, _, F12, b12, m12⟩
  have F13 := fun_mk (st := s_law_made) l13 c13 k13
  have m13 := PySem.W.mg_of X G a13
  have b13 := F13.binds (ps := ["_law_one"]) fun _ _ _ _ _ _ us hl => match us, hl with | [_], _ => rfl
  have d13 : Df K mg "_law_made" s_law_made ["_law_one"] := ⟨f13, _, F13, b13, m13⟩
  have F14 := fun_mk (st := s_law_apart) l14 c14 k14
  have m14 := PySem.W.mg_of X G a14
  have b14 := F14.binds (ps := ["_law_one", "_law_other"]) fun _ _ _ _ _ _ us hl => match us, hl with | [_, _], _ => rfl
  have d14 : Df K mg "_law_apart" s_law_apart ["_law_one", "_law_other"] := ⟨f14, _, F14, b14, m14⟩
  have F15 := fun_mk (st := s_are_apart) l15 c15 k15
  have m15 := PySem.W.mg_of X G a15
  have b15 := F15.binds (ps := ["one", "other"]) fun _ _ _ _ _ _ us hl => match us, hl with | [_, _], _ => rfl
  have d15 : Df K mg "are_apart" s_are_apart ["one", "other"] := ⟨f15, _, F15, b15, m15⟩
  have F16 := fun_mk (st := s_law) l16 c16 k16
  have m16 := PySem.W.mg_of X G a16
  have b16 := F16.binds (ps := ["_law_script"]) fun _ _ _ _ _ _ us hl => match us, hl with | [_], _ => rfl
  have d16 : Df K mg "law" s_law ["_law_script"] := ⟨f16, _, F16, b16, m16⟩
  have z_bool := PySem.W.mg_none_of X G z1
  have z_isinstance := PySem.W.mg_none_of X G z2
  have z_len := PySem.W.mg_none_of X G z3
  have z_list := PySem.W.mg_none_of X G z4
  have z_min := PySem.W.mg_none_of X G z5
  have z_range := PySem.W.mg_none_of X G z6
  have z_str := PySem.W.mg_none_of X G z7
  have z_tuple := PySem.W.mg_none_of X G z8
  have g_BENEATH := PySem.W.mg_of X G g1
  have g_FROM_ON := PySem.W.mg_of X G g2
  have g_WORDS := PySem.W.mg_of X G g3
  have cl1 : Cls K C1 := ⟨pg1, hd1, po1, sa1⟩
  have it1 : InsT K C1 := ⟨cl1, ha1, hn, htk, hm1⟩
  have m_Swap := PySem.W.mg_of X G aC1
  have FI1 := fun_mk (st := s_Swap_init) lI1 cI1 kI1
  have bI1 := FI1.binds (ps := ["self", "place", "old", "new"]) fun _ _ _ _ _ _ us hl => match us, hl with | [_, _, _, _], _ => rfl
  have cl2 : Cls K C2 := ⟨pg2, hd2, po2, sa2⟩
  have it2 : InsT K C2 := ⟨cl2, ha2, hn, htk, hm2⟩
  have m_Read := PySem.W.mg_of X G aC2
  have FI2 := fun_mk (st := s_Read_init) lI2 cI2 kI2
  have bI2 := FI2.binds (ps := ["self", "place", "words"]) fun _ _ _ _ _ _ us hl => match us, hl with | [_, _, _], _ => rfl
  have cl3 : Cls K C3 := ⟨pg3, hd3, po3, sa3⟩
  have it3 : InsT K C3 := ⟨cl3, ha3, hn, htk, hm3⟩
  have m_PutIn := PySem.W.mg_of X G aC3
  have FI3 := fun_mk (st := s_PutIn_init) lI3 cI3 kI3
  have bI3 := FI3.binds (ps := ["self", "place", "node"]) fun _ _ _ _ _ _ us hl => match us, hl with | [_, _, _], _ => rfl
  have cl4 : Cls K C4 := ⟨pg4, hd4, po4, sa4⟩
  have it4 : InsT K C4 := ⟨cl4, ha4, hn, htk, hm4⟩
  have m_LeaveOut := PySem.W.mg_of X G aC4
  have FI4 := fun_mk (st := s_LeaveOut_init) lI4 cI4 kI4
  have bI4 := FI4.binds (ps := ["self", "place"]) fun _ _ _ _ _ _ us hl => match us, hl with | [_, _], _ => rfl
  have cl5 : Cls K C5 := ⟨pg5, hd5, po5, sa5⟩
  have it5 : InsT K C5 := ⟨cl5, ha5, hn, htk, hm5⟩
  have m_Anew := PySem.W.mg_of X G aC5
  have FI5 := fun_mk (st := s_Anew_init) lI5 cI5 kI5
  have bI5 := FI5.binds (ps := ["self", "place"]) fun _ _ _ _ _ _ us hl => match us, hl with | [_, _], _ => rfl
  have cf : CF K ⟨C1, C2, C3, C4, C5⟩ := ⟨it1, it2, it3, it4, it5, n1_1, n1_2, n1_3, n2_1, n2_2, n3_1, n3_2, n4_1, n5_1, kit_own hd3 ty3 q1 (.inr r1), kit_own hd4 ty4 q2 (.inr r2), kit_own hd5 ty5 q3 (.inr r3), kit_own hd3 ty3 q4 (.inr r4), kit_own hd4 ty4 q5 (.inr r5), kit_own hd5 ty5 q6 (.inr r6), kit_own hd3 ty3 q7 (.inl rfl), kit_own hd3 ty3 q8 (.inr r8), kit_own hd4 ty4 q9 (.inl rfl), kit_own hd3 ty3 q10 (.inr r10), kit_own hd4 ty4 q11 (.inr r11), kit_own hd5 ty5 q12 (.inl rfl)⟩
  have e := hfa.symm.trans m16
  cases e
  refine ⟨PySem.W.fnOf "law" "law" (defArgs s_law) (defBody s_law) (defScope s_law) .none kV16 dc16 pm16 an16 cd16 ct16, fun s v => .of_eq rfl, fun base _ _ => ?_⟩
  have M_Swap : Mak l.prog w K mg base 1 "Swap" C1 ["place", "old", "new"] := ⟨j1, _, ["self", "place", "old", "new"], ⟨mk1, aI1, iI1, kc1⟩, init_Swap FI1 cl1 n1_1 n1_2 n1_3, bI1, m_Swap⟩
  have M_Read : Mak l.prog w K mg base 1 "Read" C2 ["place", "words"] := ⟨j2, _, ["self", "place", "words"], ⟨mk2, aI2, iI2, kc2⟩, init_Read FI2 cl2 n2_1 n2_2, bI2, m_Read⟩
  have M_PutIn : Mak l.prog w K mg base 1 "PutIn" C3 ["place", "node"] := ⟨j3, _, ["self", "place", "node"], ⟨mk3, aI3, iI3, kc3⟩, init_PutIn FI3 cl3 n3_1 n3_2, bI3, m_PutIn⟩
  have M_LeaveOut : Mak l.prog w K mg base 1 "LeaveOut" C4 ["place"] := ⟨j4, _, ["self", "place"], ⟨mk4, aI4, iI4, kc4⟩, init_LeaveOut FI4 cl4 n4_1, bI4, m_LeaveOut⟩
  have M_Anew : Mak l.prog w K mg base 1 "Anew" C5 ["place"] := ⟨j5, _, ["self", "place"], ⟨mk5, aI5, iI5, kc5⟩, init_Anew FI5 cl5 n5_1, bI5, m_Anew⟩
  have G_part_of : Fn l.prog w K mg base 1 "part_of" ["change"] (sp_part_of ⟨C1, C2, C3, C4, C5⟩) := ok_part_of (T := ⟨C1, C2, C3, C4, C5⟩) d1 cf z_isinstance g_BENEATH g_FROM_ON g_WORDS m_Anew m_LeaveOut m_PutIn
  have G_is_at_or_above : Fn l.prog w K mg base 1 "is_at_or_above" ["place", "lower"] sp_is_at_or_above := ok_is_at_or_above d2 z_len
  have G_law_label : Fn l.prog w K mg base 1 "_law_label" ["_law_cell"] sp_law_label := ok_law_label d3 z_str
  have G_law_word : Fn l.prog w K mg base 1 "_law_word" ["_law_cell"] sp_law_word := ok_law_word d4 z_range
  have G_law_goal : Fn l.prog w K mg base 1 "_law_goal" ["_law_one"] sp_law_goal := ok_law_goal d5 
  have G_has_words_of : Fn l.prog w K mg base 2 "has_words_of" ["part", "place"] sp_has_words_of := ok_has_words_of d6 G_is_at_or_above g_FROM_ON g_WORDS
  have G_law_words : Fn l.prog w K mg base 2 "_law_words" ["_law_cell"] sp_law_words := ok_law_words d7 G_law_word z_range z_tuple
  have G_law_place : Fn l.prog w K mg base 2 "_law_place" ["_law_nodes_here", "_law_cell"] sp_law_place := ok_law_place d8 G_law_label z_len z_list
  have G_law_touches : Fn l.prog w K mg base 2 "_law_touches" ["_law_one", "_law_place_here", "_law_label_here"] sp_law_touches := ok_law_touches d9 G_law_goal z_len
  have G_have_common : Fn l.prog w K mg base 3 "have_common" ["one", "other"] sp_have_common := ok_have_common d10 G_has_words_of G_is_at_or_above g_WORDS
  have G_law_nodes : Fn l.prog w K mg base 3 "_law_nodes" ["_law_cells"] sp_law_nodes := ok_law_nodes d11 G_law_label G_law_words z_len
  have G_law_change : Fn l.prog w K mg base 3 "_law_change" ["_law_nodes_here", "_law_cell", "_law_more"] sp_law_change := ok_law_change d12 G_law_label G_law_words G_law_place z_range
  have G_law_made : Fn l.prog w K mg base 3 "_law_made" ["_law_one"] (sp_law_made ⟨C1, C2, C3, C4, C5⟩) := ok_law_made (T := ⟨C1, C2, C3, C4, C5⟩) d13 cf M_Anew M_LeaveOut M_PutIn M_Read M_Swap
  have G_law_apart : Fn l.prog w K mg base 3 "_law_apart" ["_law_one", "_law_other"] sp_law_apart := ok_law_apart d14 G_law_goal G_law_touches
  have G_are_apart : Fn l.prog w K mg base 4 "are_apart" ["one", "other"] (sp_are_apart ⟨C1, C2, C3, C4, C5⟩) := ok_are_apart (T := ⟨C1, C2, C3, C4, C5⟩) d15 cf G_part_of G_have_common
  have G_law : Fn l.prog w K mg base 5 "law" ["_law_script"] sp_law := ok_law (T := ⟨C1, C2, C3, C4, C5⟩) d16 G_are_apart G_law_nodes G_law_change G_law_made G_law_apart z_bool z_isinstance z_len z_min z_range
  exact law_at m16 l16 base G_law
end K24
open PySem PySem.W PyProof.Rows
set_option maxRecDepth 100000 in
set_option maxHeartbeats 0 in
theorem PySem.Challenge.cw_codemend_k24_what_is_apart_holds : PySem.Challenge.rw_codemend_k24_what_is_apart.Holds := by
  w_on; o_law; k_head; (case hw => w_witness2)
  k_fill
  refine PL.walk_law (l := PySem.Challenge.rw_codemend_k24_what_is_apart) (k := 5) (x := "_law_script") rfl rfl ⟨rfl, by decide, by decide⟩ (fun w h Y => PySem.W.kIn_of Y) ?F
  case F =>
    intro w mg fa h KX G hmg
    refine' K24.all_mk KX G hmg ?a1 ?l1 ?c1 ?k1 ?a2 ?l2 ?c2 ?k2 ?a3 ?l3 ?c3 ?k3 ?a4 ?l4 ?c4 ?k4 ?a5 ?l5 ?c5 ?k5 ?a6 ?l6 ?c6 ?k6 ?a7 ?l7 ?c7 ?k7 ?a8 ?l8 ?c8 ?k8 ?a9 ?l9 ?c9 ?k9 ?a10 ?l10 ?c10 ?k10 ?a11 ?l11 ?c11 ?k11 ?a12 ?l12 ?c12 ?k12 ?a13 ?l13 ?c13 ?k13 ?a14 ?l14 ?c14 ?k14 ?a15 ?l15 ?c15 ?k15 ?a16 ?l16 ?c16 ?k16 ?z1 ?z2 ?z3 ?z4 ?z5 ?z6 ?z7 ?z8 ?g1 ?e1 ?g2 ?e2 ?g3 ?e3 ?aC1 ?aI1 ?iI1 ?lI1 ?cI1 ?kI1 ?pg1 ?hd1 ?po1 ?sa1 ?mk1 ?kc1 ?ha1 ?hm1 ?ty1 ?n1_1 ?n1_2 ?n1_3 ?aC2 ?aI2 ?iI2 ?lI2 ?cI2 ?kI2 ?pg2 ?hd2 ?po2 ?sa2 ?mk2 ?kc2 ?ha2 ?hm2 ?ty2 ?n2_1 ?n2_2 ?aC3 ?aI3 ?iI3 ?lI3 ?cI3 ?kI3 ?pg3 ?hd3 ?po3 ?sa3 ?mk3 ?kc3 ?ha3 ?hm3 ?ty3 ?n3_1 ?n3_2 ?aC4 ?aI4 ?iI4 ?lI4 ?cI4 ?kI4 ?pg4 ?hd4 ?po4 ?sa4 ?mk4 ?kc4 ?ha4 ?hm4 ?ty4 ?n4_1 ?aC5 ?aI5 ?iI5 ?lI5 ?cI5 ?kI5 ?pg5 ?hd5 ?po5 ?sa5 ?mk5 ?kc5 ?ha5 ?hm5 ?ty5 ?n5_1 ?hn ?htk ?q1 ?r1 ?q2 ?r2 ?q3 ?r3 ?q4 ?r4 ?q5 ?r5 ?q6 ?r6 ?q7 ?q8 ?r8 ?q9 ?q10 ?r10 ?q11 ?r11 ?q12
    (case a1 => k_is)
    (case l1 => k_is)
    (case c1 => k_is)
    (case k1 => k_is)
    (case a2 => k_is)
    (case l2 => k_is)
    (case c2 => k_is)
    (case k2 => k_is)
    (case a3 => k_is)
    (case l3 => k_is)
    (case c3 => k_is)
    (case k3 => k_is)
    (case a4 => k_is)
    (case l4 => k_is)
    (case c4 => k_is)
    (case k4 => k_is)
    (case a5 => k_is)
    (case l5 => k_is)
    (case c5 => k_is)
    (case k5 => k_is)
    (case a6 => k_is)
    (case l6 => k_is)
    (case c6 => k_is)
    (case k6 => k_is)
    (case a7 => k_is)
    (case l7 => k_is)
    (case c7 => k_is)
    (case k7 => k_is)
    (case a8 => k_is)
    (case l8 => k_is)
    (case c8 => k_is)
    (case k8 => k_is)
    (case a9 => k_is)
    (case l9 => k_is)
    (case c9 => k_is)
    (case k9 => k_is)
    (case a10 => k_is)
    (case l10 => k_is)
    (case c10 => k_is)
    (case k10 => k_is)
    (case a11 => k_is)
    (case l11 => k_is)
    (case c11 => k_is)
    (case k11 => k_is)
    (case a12 => k_is)
    (case l12 => k_is)
    (case c12 => k_is)
    (case k12 => k_is)
    (case a13 => k_is)
    (case l13 => k_is)
    (case c13 => k_is)
    (case k13 => k_is)
    (case a14 => k_is)
    (case l14 => k_is)
    (case c14 => k_is)
    (case k14 => k_is)
    (case a15 => k_is)
    (case l15 => k_is)
    (case c15 => k_is)
    (case k15 => k_is)
    (case a16 => k_is)
    (case l16 => k_is)
    (case c16 => k_is)
    (case k16 => k_is)
    (case z1 => k_is)
    (case z2 => k_is)
    (case z3 => k_is)
    (case z4 => k_is)
    (case z5 => k_is)
    (case z6 => k_is)
    (case z7 => k_is)
    (case z8 => k_is)
    (case g1 => k_is)
    (case e1 => decide +kernel)
    (case g2 => k_is)
    (case e2 => decide +kernel)
    (case g3 => k_is)
    (case e3 => decide +kernel)
    (case aC1 => k_is)
    (case aI1 => k_is)
    (case iI1 => k_is)
    (case lI1 => k_is)
    (case cI1 => k_is)
    (case kI1 => k_is)
    (case pg1 => k_is)
    (case hd1 => k_is)
    (case po1 => k_is)
    (case sa1 => k_is)
    (case mk1 => k_is)
    (case kc1 => k_is)
    (case ha1 => k_is)
    (case hm1 => k_is)
    (case ty1 => k_is)
    (case n1_1 => k_is)
    (case n1_2 => k_is)
    (case n1_3 => k_is)
    (case aC2 => k_is)
    (case aI2 => k_is)
    (case iI2 => k_is)
    (case lI2 => k_is)
    (case cI2 => k_is)
    (case kI2 => k_is)
    (case pg2 => k_is)
    (case hd2 => k_is)
    (case po2 => k_is)
    (case sa2 => k_is)
    (case mk2 => k_is)
    (case kc2 => k_is)
    (case ha2 => k_is)
    (case hm2 => k_is)
    (case ty2 => k_is)
    (case n2_1 => k_is)
    (case n2_2 => k_is)
    (case aC3 => k_is)
    (case aI3 => k_is)
    (case iI3 => k_is)
    (case lI3 => k_is)
    (case cI3 => k_is)
    (case kI3 => k_is)
    (case pg3 => k_is)
    (case hd3 => k_is)
    (case po3 => k_is)
    (case sa3 => k_is)
    (case mk3 => k_is)
    (case kc3 => k_is)
    (case ha3 => k_is)
    (case hm3 => k_is)
    (case ty3 => k_is)
    (case n3_1 => k_is)
    (case n3_2 => k_is)
    (case aC4 => k_is)
    (case aI4 => k_is)
    (case iI4 => k_is)
    (case lI4 => k_is)
    (case cI4 => k_is)
    (case kI4 => k_is)
    (case pg4 => k_is)
    (case hd4 => k_is)
    (case po4 => k_is)
    (case sa4 => k_is)
    (case mk4 => k_is)
    (case kc4 => k_is)
    (case ha4 => k_is)
    (case hm4 => k_is)
    (case ty4 => k_is)
    (case n4_1 => k_is)
    (case aC5 => k_is)
    (case aI5 => k_is)
    (case iI5 => k_is)
    (case lI5 => k_is)
    (case cI5 => k_is)
    (case kI5 => k_is)
    (case pg5 => k_is)
    (case hd5 => k_is)
    (case po5 => k_is)
    (case sa5 => k_is)
    (case mk5 => k_is)
    (case kc5 => k_is)
    (case ha5 => k_is)
    (case hm5 => k_is)
    (case ty5 => k_is)
    (case n5_1 => k_is)
    (case hn => k_is)
    (case htk => k_is)
    (case q1 => k_is)
    (case r1 => rfl)
    (case q2 => k_is)
    (case r2 => rfl)
    (case q3 => k_is)
    (case r3 => rfl)
    (case q4 => k_is)
    (case r4 => rfl)
    (case q5 => k_is)
    (case r5 => rfl)
    (case q6 => k_is)
    (case r6 => rfl)
    (case q7 => k_is)
    (case q8 => k_is)
    (case r8 => rfl)
    (case q9 => k_is)
    (case q10 => k_is)
    (case r10 => rfl)
    (case q11 => k_is)
    (case r11 => rfl)
    (case q12 => k_is)

