import PyProof.Rows.All
import Wide.All
import OpenK.AllK
import Wide.FinOn
import Lean
import PyProof.EqAt
import PyProof.EqKinds
import PyProof.TupleCall
import PySem.Challenge.RW_neverbelow_k52_rows_put_together
set_option Elab.async false
set_option linter.all false
set_option maxRecDepth 100000
/-! THE HAND LAYER, for ints, bools, texts, own classes, LISTS and tuples (index, slices, in, append, pop ..), calls, loops. Paste it whole ahead of your own text; what your proof does not reach may be deleted. -/
namespace L2
open PySem PySem.Spec PyProof.Rows

/-- a key: an int or a str -/
abbrev Key := Sum Int Str
def keyIs : Key → Value → Bool
  | .inl k, v => Value.isInt k v
  | .inr x, v => Value.isStrOf x v
def keyH (w : World) : Key → Int
  | .inl k => hashInt k
  | .inr x => hashStr w x
theorem keyIs_shape : ∀ {k : Key} {v : Value}, keyIs k v = true → (∃ i t, k = Sum.inl i ∧ v = Value.int i t) ∨ (∃ x t, k = Sum.inr x ∧ v = Value.str x t)
  | .inl i, v, h => by
    obtain ⟨t, e⟩ := Value.isInt_shape (k := i) (v := v) h
    exact .inl ⟨i, t, rfl, e⟩
  | .inr x, v, h => by
    obtain ⟨t, e⟩ := Value.isStrOf_shape (x := x) (v := v) h
    exact .inr ⟨x, t, rfl, e⟩
theorem keyIs_int (i : Int) (t : Tok) : keyIs (.inl i) (.int i t) = true := by simp [keyIs, Value.isInt]
theorem keyIs_str (x : Str) (t : Tok) : keyIs (.inr x) (.str x t) = true := by simp [keyIs, Value.isStrOf]
theorem key_ll (a b : Int) : decide ((Sum.inl a : Key) = Sum.inl b) = (a == b) := by
  by_cases e : a = b
  · subst e; simp
  · have h : ¬ (Sum.inl a : Key) = Sum.inl b := fun q => e (Sum.inl.inj q)
    rw [decide_eq_false h]
    exact (beq_eq_false_iff_ne.mpr e).symm
theorem key_rr (a b : Str) : decide ((Sum.inr a : Key) = Sum.inr b) = decide (a = b) := by
  by_cases e : a = b
  · subst e; simp
  · have h : ¬ (Sum.inr a : Key) = Sum.inr b := fun q => e (Sum.inr.inj q)
    rw [decide_eq_false h, decide_eq_false e]
theorem key_lr (a : Int) (b : Str) : decide ((Sum.inl a : Key) = Sum.inr b) = false := decide_eq_false (fun q => nomatch q)
theorem key_rl (a : Str) (b : Int) : decide ((Sum.inr a : Key) = Sum.inl b) = false := decide_eq_false (fun q => nomatch q)

def mixKind (prog : Program) (w : World) : PySem.KeyKind prog w Key where
  is := keyIs
  hash := keyH w
  inj := fun v a b ha hb => by
    rcases keyIs_shape ha with ⟨i, t, rfl, rfl⟩ | ⟨x, t, rfl, rfl⟩
    · rcases keyIs_shape hb with ⟨j, u, rfl, e⟩ | ⟨y, u, rfl, e⟩
      · injection e with e1 _; rw [e1]
      · exact nomatch e
    · rcases keyIs_shape hb with ⟨j, u, rfl, e⟩ | ⟨y, u, rfl, e⟩
      · exact nomatch e
      · injection e with e1 _; rw [e1]
  byValue := fun k v h => by
    rcases keyIs_shape h with ⟨i, t, rfl, rfl⟩ | ⟨x, t, rfl, rfl⟩ <;> rfl
  pyHash := fun hv h => by
    rcases keyIs_shape hv with ⟨i, t, rfl, rfl⟩ | ⟨x, t, rfl, rfl⟩
    · exact wpAny_pyHash_int h
    · exact wpAny_pyHash_str h
  eqBool := fun hu hv h => by
    rcases keyIs_shape hu with ⟨i, t, rfl, rfl⟩ | ⟨x, t, rfl, rfl⟩
    · rcases keyIs_shape hv with ⟨j, u, rfl, rfl⟩ | ⟨y, u, rfl, rfl⟩
      · rw [key_ll] at h; exact wpAny_eqBool_int h
      · rw [key_lr] at h; exact SeqAt.EqAt.int_str i t y u _ _ _ _ h
    · rcases keyIs_shape hv with ⟨j, u, rfl, rfl⟩ | ⟨y, u, rfl, rfl⟩
      · rw [key_rl] at h; exact SeqAt.EqAt.str_int x t j u _ _ _ _ h
      · rw [key_rr] at h; exact wpAny_eqBool_str h
  «strs» := fun k x t v h => by
    rcases keyIs_shape h with ⟨i, u, rfl, e⟩ | ⟨y, u, rfl, e⟩
    · exact nomatch e
    · injection e with e1 _
      subst e1
      cases v <;> rfl

theorem mixKind_int (prog : Program) (w : World) (i : Int) (t : Tok) : (mixKind prog w).is (.inl i) (.int i t) = true := keyIs_int i t
theorem mixKind_str (prog : Program) (w : World) (x : Str) (t : Tok) : (mixKind prog w).is (.inr x) (.str x t) = true := keyIs_str x t
end L2

namespace L2
open PySem PySem.Spec PyProof.Rows

/-- a value, without the heap -/
inductive V where
  | non | bl (b : Bool) | int (i : Int) | str (x : Str) | byt (b : Array UInt8) | flt (b : UInt64) | ref (a : Addr) | ty (n : String)
  deriving DecidableEq

def RelV : V → Value → Prop
  | .non, u => u = Value.none
  | .bl b, u => u = Value.bool b
  | .int i, u => ∃ t, u = Value.int i t
  | .str x, u => ∃ t, u = Value.str x t
  | .byt b, u => ∃ t, u = Value.bytes b t
  | .flt b, u => ∃ t, u = Value.float b t
  | .ref a, u => u = Value.ref a
  | .ty n, u => u = Value.type n

abbrev Vals : List V → List Value → Prop := Paired RelV
theorem Vals.length {xs : List V} {us : List Value} (r : Vals xs us) : xs.length = us.length := Paired.length r
theorem Vals.get : ∀ {xs : List V} {us : List Value} {i : Nat} {x : V}, Vals xs us → xs[i]? = some x → ∃ u, us[i]? = some u ∧ RelV x u
  | _, _, _, _, .nil, e => by simp at e
  | _, _, 0, _, .cons r _, e => by simp at e; subst e; exact ⟨_, rfl, r⟩
  | _, _, i + 1, x, .cons _ t, e => by
    obtain ⟨u, h1, h2⟩ := Vals.get (i := i) (x := x) t (by simpa using e)
    exact ⟨u, by simpa using h1, h2⟩
theorem Vals.set {x : V} {u : Value} (r : RelV x u) : ∀ {xs : List V} {us : List Value} (i : Nat), Vals xs us → Vals (xs.set i x) (us.set i u)
  | _, _, _, .nil => .nil
  | _, _, 0, .cons _ t => .cons r t
  | _, _, i + 1, .cons q t => .cons q (Vals.set r i t)
theorem Vals.append : ∀ {xs ys : List V} {us ws : List Value}, Vals xs us → Vals ys ws → Vals (xs ++ ys) (us ++ ws)
  | _, _, _, _, .nil, s => s
  | _, _, _, _, .cons r t, s => .cons r (Vals.append t s)
theorem Vals.take : ∀ {xs : List V} {us : List Value} (n : Nat), Vals xs us → Vals (xs.take n) (us.take n)
  | _, _, 0, _ => .nil
  | _, _, _ + 1, .nil => .nil
  | _, _, n + 1, .cons r t => .cons r (Vals.take n t)
theorem Vals.drop : ∀ {xs : List V} {us : List Value} (n : Nat), Vals xs us → Vals (xs.drop n) (us.drop n)
  | _, _, 0, r => r
  | _, _, _ + 1, .nil => .nil
  | _, _, n + 1, .cons _ t => Vals.drop n t
def RelO : Option V → Option Value → Prop
  | some v, some u => RelV v u
  | none, none => True
  | _, _ => False
def KV {κ : Type} : List (κ × V) → List (κ × Value) → Prop := Paired fun (p : κ × V) (q : κ × Value) => p.1 = q.1 ∧ RelV p.2 q.2

/-- a key of a dict (00_mix): an int or a text -/
def kV : Key → V
  | .inl i => .int i
  | .inr x => .str x

/-- what stands at a tracked address -/
inductive HO where
  /-- a list -/
  | lst (xs : List V)
  /-- a tuple (never changes) -/
  | tup (xs : List V)
  /-- a dict whose keys are ints and texts; one whose keys are tuples of ints and texts (the empty one is both) -/
  | dK (kvs : List (Key × V)) | dT (kvs : List (List Key × V))
  /-- a set of ints: its members, its size -/
  | set (S : Int → Bool) (n : Nat)
  /-- an instance of the class at C, its dict at dx, its attributes -/
  | ins (C dx : Addr) (fs : List (Str × V))
  /-- the dict of the instance at x -/
  | own (x : Addr)
  /-- the dict of an exception -/
  | xd (fs : List (Str × V))
  /-- a bound method, f of x -/
  | met (f x : Addr)
  /-- a range object lo, lo + 1, .. below hi -/
  | rng (lo hi : Int)
  /-- a thing that is known to the object (the script; a dict while a loop walks it): read, never written while it is so -/
  | frz (o : Obj) (u : HO)
  /-- a code object's table -/
  | tbl (ps : Array Value)
  /-- any other thing, by what is true of its one object (a def of one's own: SetO a S n := HO.ext fun h => ..) -/
  | ext (φ : Heap → Prop)

abbrev Hp := Addr → Option HO
def upd (H : Hp) (a : Addr) (o : HO) : Hp := fun b => if b = a then some o else H b
theorem upd_same {H : Hp} {a : Addr} {o : HO} : upd H a o a = some o := by unfold upd; rw [if_pos rfl]
theorem upd_ne {H : Hp} {a b : Addr} {o : HO} (h : b ≠ a) : upd H a o b = H b := by unfold upd; rw [if_neg h]
theorem upd_upd {H : Hp} {a : Addr} {o u : HO} : upd (upd H a o) a u = upd H a u := by
  funext b; unfold upd; split <;> rfl
/-- two objects of different content stand apart -/
theorem ne_of {H : Hp} {a b : Addr} {o u : HO} (h : H a = some o) (h' : H b = some u) (d : o ≠ u) : a ≠ b := by
  intro e; subst e; rw [h] at h'; exact d (Option.some.inj h')
theorem ne_of_none {H : Hp} {a b : Addr} {o : HO} (h : H a = some o) (h' : H b = none) : a ≠ b := by
  intro e; subst e; rw [h] at h'; cases h'

section
variable (P : Program) (w : World)
def ObjOk (H : Hp) (h : Heap) (a : Addr) : HO → Prop
  | .lst xs => xs.length ≤ sizeLine ∧ ∃ (its : List Value) (n : Nat), Vals xs its ∧ h.get? a = some { cls := .type "list", data := .seq its.toArray n }
  | .tup xs => xs.length ≤ sizeLine ∧ ∃ its : List Value, Vals xs its ∧ IsTup h a its.toArray
  | .dK kvs => kvs.length ≤ sizeLine ∧ (a == sysModules) = false ∧ ∃ vs, KV kvs vs ∧ h.DictOf (mixKind P w) a vs
  | .dT kvs => kvs.length ≤ sizeLine ∧ (a == sysModules) = false ∧ ∃ xs : List (List Key × Addr × Value),
      Paired (fun (p : List Key × V) (q : List Key × Addr × Value) => p.1 = q.1 ∧ H q.2.1 = some (.tup (p.1.map kV)) ∧ RelV p.2 q.2.2) kvs xs ∧
      ∃ o es ep, h.get? a = some o ∧ o.ExactDict ∧ o.data = .dict es ep ∧ es.toList = xs.map (entryOfKey (tupleKind (mixKind P w))) ∧ (xs.map (·.1)).Nodup
  | .set S n => h.SetOf (intKind P w) a S n
  | .ins C dx fs => H dx = some (.own a) ∧ fs.length ≤ 1000 ∧ dx ≠ a ∧ h.get? a = some (PySem.W.instObj C dx) ∧
      ∃ mA, h.Ns1 dx mA ∧ (∀ f, RelO (fs.lookup f) (mA f)) ∧ PySem.Within mA (fs.map (·.1))
  | .own _ => ∃ o, h.get? a = some o
  | .xd fs => ∃ mA, h.Ns1 a mA ∧ ∀ f, RelO (fs.lookup f) (mA f)
  | .rng lo hi => ∃ t u v, h.get? a = some { cls := .type "range", data := .fields #[.int lo t, .int hi u, .int 1 v] }
  | .frz o u => h.get? a = some o ∧ ObjOk H h a u
  | .tbl ps => h.get? a = some { cls := .none, data := .fields ps }
  | .met f x => h.get? a = some (PySem.W.methodObj (.ref f) (.ref x))
  | .ext φ => φ h ∧ (∃ o, h.get? a = some o) ∧ ∀ h1 h2 : Heap, φ h1 → (∀ o, h1.get? a = some o → h2.get? a = some o) → φ h2
/-- the abstract heap is held -/
def HOk (H : Hp) (h : Heap) : Prop := ∀ a o, H a = some o → ObjOk P w H h a o
end

section
variable {P : Program} {w : World} {H H' : Hp} {h h' : Heap} {a : Addr} {o : HO}
theorem ObjOk.lt (x : ObjOk P w H h a o) : a < h.objs.size := by
  cases o with
  | lst xs => obtain ⟨_, _, _, _, e⟩ := x; exact Heap.lt_size e
  | tup xs => obtain ⟨_, _, _, p⟩ := x; exact p.lt
  | dK kvs => obtain ⟨_, _, _, _, o, _, _, e, _⟩ := x; exact Heap.lt_size e
  | dT kvs => obtain ⟨_, _, _, _, o, _, _, e, _⟩ := x; exact Heap.lt_size e
  | set S n => obtain ⟨o, _, _, _, e, _⟩ := x; exact Heap.lt_size e
  | ins C dx fs => obtain ⟨_, _, _, e, _⟩ := x; exact Heap.lt_size e
  | own y => obtain ⟨_, e⟩ := x; exact Heap.lt_size e
  | xd fs => obtain ⟨_, ⟨_, _, _, e, _⟩, _⟩ := x; exact Heap.lt_size e
  | rng lo hi => obtain ⟨_, _, _, e⟩ := x; exact Heap.lt_size e
  | frz ob u => obtain ⟨e, _⟩ := x; exact Heap.lt_size e
  | tbl ps => exact Heap.lt_size (show h.get? a = some _ from x)
  | met f y => exact Heap.lt_size (show h.get? a = some _ from x)
  | ext φ => obtain ⟨_, ⟨_, e⟩, _⟩ := x; exact Heap.lt_size e
theorem Paired.mapP {α β : Type} {F G : α → β → Prop} : ∀ {l₁ : List α} {l₂ : List β}, Paired F l₁ l₂ → (∀ a b, F a b → G a b) → Paired G l₁ l₂
  | _, _, .nil, _ => .nil
  | _, _, .cons r t, f => .cons (f _ _ r) (Paired.mapP t f)
/-- what an object's description leans on: its own object, its own dict, the tuples -/
theorem ObjOk.stay (x : ObjOk P w H h a o) (k : ∀ b u, (b = a ∨ H b = some (.own a)) → h.get? b = some u → h'.get? b = some u)
    (ho : ∀ b, H b = some (.own a) → H' b = some (.own a)) (ht : ∀ b xs, H b = some (.tup xs) → H' b = some (.tup xs)) : ObjOk P w H' h' a o := by
  induction o with
  | lst xs => obtain ⟨z, its, n, r, e⟩ := x; exact ⟨z, its, n, r, k _ _ (.inl rfl) e⟩
  | tup xs => obtain ⟨z, its, r, ob, e, c⟩ := x; exact ⟨z, its, r, ob, k _ _ (.inl rfl) e, c⟩
  | dK kvs => obtain ⟨z, y, vs, r, ob, es, ep, e, c⟩ := x; exact ⟨z, y, vs, r, ob, es, ep, k _ _ (.inl rfl) e, c⟩
  | dT kvs =>
    obtain ⟨z, y, xs, r, ob, es, ep, e, c⟩ := x
    exact ⟨z, y, xs, Paired.mapP r fun p q z => ⟨z.1, ht _ _ z.2.1, z.2.2⟩, ob, es, ep, k _ _ (.inl rfl) e, c⟩
  | set S n => obtain ⟨ob, es, ep, t, e, c⟩ := x; exact ⟨ob, es, ep, t, k _ _ (.inl rfl) e, c⟩
  | ins C dx fs =>
    obtain ⟨d, z, ne, e, mA, ⟨od, es, ep, e2, c⟩, r⟩ := x
    exact ⟨ho _ d, z, ne, k _ _ (.inl rfl) e, mA, ⟨od, es, ep, k _ _ (.inr d) e2, c⟩, r⟩
  | own y => obtain ⟨ob, e⟩ := x; exact ⟨ob, k _ _ (.inl rfl) e⟩
  | xd fs => obtain ⟨mA, ⟨od, es, ep, e, c⟩, r⟩ := x; exact ⟨mA, ⟨od, es, ep, k _ _ (.inl rfl) e, c⟩, r⟩
  | rng lo hi => obtain ⟨t, u, v, e⟩ := x; exact ⟨t, u, v, k _ _ (.inl rfl) e⟩
  | frz ob u ih => obtain ⟨e, q⟩ := x; exact ⟨k _ _ (.inl rfl) e, ih q⟩
  | tbl ps =>
    have e : h.get? a = some { cls := .none, data := .fields ps } := x
    show h'.get? a = some { cls := .none, data := .fields ps }
    exact k a _ (.inl rfl) e
  | met f y =>
    have e : h.get? a = some (PySem.W.methodObj (.ref f) (.ref y)) := x
    show h'.get? a = some (PySem.W.methodObj (.ref f) (.ref y))
    exact k a _ (.inl rfl) e
  | ext φ => obtain ⟨p, ⟨o, e⟩, st⟩ := x; exact ⟨st _ _ p fun o q => k _ _ (.inl rfl) q, ⟨o, k _ _ (.inl rfl) e⟩, st⟩
theorem HOk.lt (x : HOk P w H h) (e : H a = some o) : a < h.objs.size := (x a o e).lt
theorem HOk.fresh (x : HOk P w H h) (e : h.objs.size ≤ a) : H a = none := by
  cases q : H a with
  | none => rfl
  | some u => exact absurd (Nat.lt_of_lt_of_le (x.lt q) e) (Nat.lt_irrefl _)
/-- every object of the heap is kept -/
theorem HOk.kept (x : HOk P w H h) (k : ∀ b u, h.get? b = some u → h'.get? b = some u) : HOk P w H h' := fun a o e =>
  (x a o e).stay (fun b u _ q => k b u q) (fun _ q => q) fun _ _ q => q
/-- a new object is laid and tracked -/
theorem HOk.laid (x : HOk P w H h) (k : ∀ b u, h.get? b = some u → h'.get? b = some u) (hp : h.objs.size ≤ a) (new : ObjOk P w (upd H a o) h' a o) : HOk P w (upd H a o) h' := fun b u e => by
  have hn := x.fresh hp
  by_cases hb : b = a
  · subst hb; rw [upd_same] at e; cases e; exact new
  · rw [upd_ne hb] at e
    exact (x b u e).stay (fun c v _ q => k c v q) (fun c q => by rw [upd_ne (ne_of_none q hn)]; exact q) fun c xs q => by rw [upd_ne (ne_of_none q hn)]; exact q
end

/-- what may be read as u: it is u, or a known u -/
def Rd (H : Hp) (a : Addr) (u : HO) : Prop := H a = some u ∨ ∃ o, H a = some (.frz o u)
theorem Rd.ok {P : Program} {w : World} {H : Hp} {h : Heap} {a : Addr} {u : HO} (r : Rd H a u) (x : HOk P w H h) : ObjOk P w H h a u := by
  rcases r with r | ⟨o, r⟩
  · exact x a u r
  · obtain ⟨_, q⟩ := x a _ r
    exact q
/-- what may be written -/
def Mut : Option HO → Prop
  | some (.lst _) => True
  | some (.dK _) => True
  | some (.dT _) => True
  | some (.set _ _) => True
  | some (.ins _ _ _) => True
  | some (.ext _) => True
  | _ => False
section
variable {P : Program} {w : World} {H : Hp} {h h' : Heap} {x e : Addr} {o' : HO}
/-- the object at e is changed: x itself, or the dict of the instance x -/
theorem HOk.write (ok : HOk P w H h) (mu : Mut (H x)) (he : e = x ∨ H e = some (.own x)) (k : ∀ b u, b ≠ e → h.get? b = some u → h'.get? b = some u) (heo : ∃ u, h'.get? e = some u)
    (new : ObjOk P w (upd H x o') h' x o') : HOk P w (upd H x o') h' := fun b u q => by
  have nown : ∀ c y, H c = some (.own y) → c ≠ x := fun c y r z => by subst z; rw [r] at mu; exact mu
  have ntup : ∀ c xs, H c = some (.tup xs) → c ≠ x := fun c xs r z => by subst z; rw [r] at mu; exact mu
  by_cases hb : b = x
  · subst hb; rw [upd_same] at q; cases q; exact new
  · rw [upd_ne hb] at q
    by_cases hbe : b = e
    · have q' : H b = some (.own x) := by
        rcases he with z | z
        · exact absurd (hbe.trans z) hb
        · rw [hbe]; exact z
      rw [q] at q'; cases q'
      obtain ⟨v, hv⟩ := heo
      exact ⟨v, by rw [hbe]; exact hv⟩
    · refine (ok b u q).stay (fun c v hc r => k c v ?_ r) (fun c r => by rw [upd_ne (nown c b r)]; exact r) fun c xs r => by rw [upd_ne (ntup c xs r)]; exact r
      rcases hc with rfl | hc
      · exact hbe
      · rintro rfl
        rcases he with z | z
        · exact nown c b hc z
        · rw [hc] at z; cases z; exact hb rfl
end

/-! ### kept unless tracked; of the frames at fs (the callers') the slots may change (an exception that passes writes there); of the records at ex (iterators) nothing is said -/
structure Un (fs ex : List Addr) (H H' : Hp) (h h' : Heap) : Prop where
  keep : ∀ b o, h.get? b = some o → H b = none → b ∉ fs → b ∉ ex → h'.get? b = some o
  slot : ∀ b o, h.get? b = some o → H b = none → b ∈ fs → b ∉ ex → ∃ sl, h'.get? b = some { o with slots := sl }
  free : ∀ b o, h.get? b = some o → H b = none → b ∉ ex → H' b = none
  there : ∀ b o, h.get? b = some o → b ∉ ex → ∃ o', h'.get? b = some o'
  tups : ∀ b xs, H b = some (.tup xs) → H' b = some (.tup xs)
  frzs : ∀ b o u, H b = some (.frz o u) → H' b = some (.frz o u)
  tbls : ∀ b ps, H b = some (.tbl ps) → ∃ more, H' b = some (.tbl (ps ++ more))
section
variable {fs fs' ex ex' : List Addr} {H H1 H2 : Hp} {h h1 h2 h' : Heap} {a x e : Addr} {o : HO}
theorem Un.any (u : Un fs ex H H1 h h1) {b : Addr} {ob : Obj} (q : h.get? b = some ob) (n : H b = none) (hx : b ∉ ex) : ∃ sl, h1.get? b = some { ob with slots := sl } := by
  by_cases hb : b ∈ fs
  · exact u.slot b ob q n hb hx
  · exact ⟨ob.slots, u.keep b ob q n hb hx⟩
theorem Un.kept (k : ∀ b u, h.get? b = some u → h'.get? b = some u) : Un fs ex H H h h' :=
  ⟨fun b ob q _ _ _ => k b ob q, fun b ob q _ _ _ => ⟨ob.slots, k b ob q⟩, fun _ _ _ n _ => n, fun b ob q _ => ⟨ob, k b ob q⟩, fun _ _ q => q, fun _ _ _ q => q, fun _ ps q => ⟨#[], by rw [q]; simp⟩⟩
theorem Un.refl : Un fs ex H H h h := Un.kept fun _ _ q => q
theorem Un.laid (k : ∀ b u, h.get? b = some u → h'.get? b = some u) (hp : h.objs.size ≤ a) (hn : H a = none) : Un fs ex H (upd H a o) h h' where
  keep := fun b u q _ _ _ => k b u q
  slot := fun b u q _ _ _ => ⟨u.slots, k b u q⟩
  free := fun b u q n _ => by rw [upd_ne (Nat.ne_of_lt (Nat.lt_of_lt_of_le (Heap.lt_size q) hp))]; exact n
  there := fun b u q _ => ⟨u, k b u q⟩
  tups := fun b xs q => by rw [upd_ne (ne_of_none q hn)]; exact q
  frzs := fun b u xs q => by rw [upd_ne (ne_of_none q hn)]; exact q
  tbls := fun b ps q => ⟨#[], by rw [upd_ne (ne_of_none q hn), q]; simp⟩
theorem Un.write (mu : Mut (H x)) (he : e = x ∨ H e = some (.own x)) (k : ∀ b u, b ≠ e → h.get? b = some u → h'.get? b = some u) (heo : ∃ u, h'.get? e = some u) : Un fs ex H (upd H x o) h h' := by
  have hx : ∀ b, H b = none → b ≠ x := fun b n z => by subst z; rw [n] at mu; exact mu
  have hb : ∀ b, H b = none → b ≠ e := fun b n z => by
    subst z
    rcases he with r | r
    · exact hx b n r
    · rw [n] at r; cases r
  have hm : ∀ b u, H b = some u → ¬ Mut (some u) → b ≠ x := fun b u q nm z => by subst z; rw [q] at mu; exact nm mu
  refine ⟨fun b u q n _ _ => k b u (hb b n) q, fun b u q n _ _ => ⟨u.slots, k b u (hb b n) q⟩, fun b u q n _ => by rw [upd_ne (hx b n)]; exact n, fun b u q _ => ?_,
    fun b xs q => by rw [upd_ne (hm b _ q fun z => z)]; exact q, fun b u xs q => by rw [upd_ne (hm b _ q fun z => z)]; exact q, fun b ps q => ⟨#[], by rw [upd_ne (hm b _ q fun z => z), q]; simp⟩⟩
  by_cases hbe : b = e
  · subst hbe; exact heo
  · exact ⟨u, k b u hbe q⟩
end

/-! ### the heap without what is tracked -/
def trk (h : Heap) (H : Hp) : List Addr := (List.range h.objs.size).filter fun a => (H a).isSome
def hidT (h : Heap) (H : Hp) : Heap := PySem.W.hideAll h (trk h H)
theorem hidT_size (h : Heap) (H : Hp) : (hidT h H).objs.size = h.objs.size := PySem.W.hideAll_size _ _
theorem hidT_get {h : Heap} {H : Hp} {b : Addr} {o : Obj} (e : h.get? b = some o) (n : H b = none) : (hidT h H).get? b = some o :=
  PySem.W.hideAll_get _ e fun hm => by
    have q : (H b).isSome = true := (List.mem_filter.mp hm).2
    rw [n] at q; simp at q
theorem of_hidT {h : Heap} {H : Hp} {b : Addr} {o : Obj} (e : (hidT h H).get? b = some o) : h.get? b = some o ∧ H b = none := by
  have e' : h.get? b = some o := PySem.W.of_hideAll (trk h H) e
  refine ⟨e', ?_⟩
  cases q : H b with
  | none => rfl
  | some x =>
    have hm : b ∈ trk h H := List.mem_filter.mpr ⟨List.mem_range.mpr (Heap.lt_size e'), by simp [q]⟩
    have z : (hidT h H).get? b = none := PySem.W.hideAll_none (trk h H) hm
    rw [z] at e; cases e

/-! ### OpenK's ledger, filled with every new object but one -/
def allNews (g h : Heap) (L : Addr) : List (Addr × Obj) := (List.range h.objs.size).filterMap fun a => if a = L ∨ (g.get? a).isSome = true then none else (h.get? a).map fun o => (a, o)
def rest (g h : Heap) (L d : Addr) : List (Addr × Obj) := (allNews g h L).filter fun p => decide (p.1 ≠ d)
end L2

namespace L2
open PySem PySem.Spec PyProof.Rows

/-- the module's facts, over the base: the heap at the law's entry without what is tracked there -/
structure Mod (K : PySem.W.Frag) (mg : Str → Option Value) (base : Heap) : Prop where
  kin : K.In base
  glob : base.Ns mainGlobals mg
  blt : ∃ mb, base.Ns builtinsNs mb ∧ ∀ x : Str, x ≠ "__name__" → mb x = bootBuiltins x
  nolimit : base.NoLimit

/-- the context: a def's body (or a comprehension's block) running. base: fixed through the whole law; s₀, H₀: the entry; outer: the frames whose slots others may change (a def's callers); stack: all frames that run;
   ex: iterators that were made ahead of the entry and are walked here (a comprehension's); fn: the names whose cells were made at the entry (a def: all; a comprehension's block: its own); calm: not within an except suite; pn: pins that every state bears; xe: what is wanted of an exception that leaves the code -/
structure Cx where
  prog : Program
  w : World
  K : PySem.W.Frag
  mg : Str → Option Value
  base : Heap
  A : Around
  N : List Str
  s₀ : Shared
  H₀ : Hp
  env : Env
  outer : List Env
  stack : List Env
  ex : List Addr
  fn : Str → Bool
  calm : Bool
  pn : List (Addr × Obj)
  xe : Value → Shared → Prop
/-- the callers' frames -/
def frs (l : List Env) : List Addr := l.filterMap (·.frame)
abbrev Cx.fs (X : Cx) : List Addr := frs X.outer

def Vis (sc : Scope) (x : Str) : Prop := sc.names.lookup x = some .local ∨ sc.names.lookup x = some .cell ∨ sc.names.lookup x = some .free
def Loc (sc : Scope) (x : Str) : Prop := sc.names.lookup x = some .local ∨ sc.names.lookup x = some .cell
def Look (env : Env) (h : Heap) (m : Str → Option Value) (x : Str) (u : Value) : Prop :=
  (env.kindOf x = some .local ∧ m x = some u) ∨ ((env.kindOf x = some .cell ∨ env.kindOf x = some .free) ∧ ∃ c, env.cells.lookup x = some c ∧ h.IsCell c (some u))

structure Cx.Ok (X : Cx) : Prop where
  mod : Mod X.K X.mg X.base
  kind : X.env.scope.kind = .function
  glob : X.env.globals = mainGlobals
  blt : X.env.builtins = builtinsNs
  above : X.s₀.heap.objs.size ≤ X.env.locals
  inj : ∀ x y c, X.env.cells.lookup x = some c → X.env.cells.lookup y = some c → x = y
  has : ∀ x, (X.env.kindOf x = some .cell ∨ X.env.kindOf x = some .free) → ∃ c, X.env.cells.lookup x = some c
  cab : ∀ x c, X.fn x = true → X.env.cells.lookup x = some c → X.s₀.heap.objs.size ≤ c
  hd : X.calm = true → X.A.handled = none
  frames : X.A.frames = some X.stack
  stk : X.stack = X.outer ∨ (X.stack = X.env :: X.outer ∧ X.env.frame = some X.env.locals)
  exf : ∀ b ∈ X.ex, b ≠ X.env.locals ∧ ∀ x c, X.env.cells.lookup x = some c → c ≠ b
  bs : ∀ b o, X.base.get? b = some o → X.s₀.heap.get? b = some o ∧ X.H₀ b = none
  bsz : X.base.objs.size ≤ X.s₀.heap.objs.size
  noex : ∀ b o, X.base.get? b = some o → b ∉ X.ex
  exfs : ∀ b ∈ X.ex, b ∉ X.fs
  funs : X.s₀.heap.FunFrames X.base X.outer
  frf : ∀ b ∈ X.fs, X.H₀ b = none

structure Inv (X : Cx) (pins : List (Addr × Obj)) (σ : List (Option V)) (H : Hp) (s : Shared) : Prop where
  ok : X.Ok
  os : s.os = X.s₀.os
  bare : AllBare s.gens
  base : Un X.fs X.ex X.H₀ H X.s₀.heap s.heap
  loc : ∃ m, s.heap.Ns X.env.locals m ∧ ∀ (i : Nat) (x : Str) (v : V), X.N[i]? = some x → σ[i]? = some (some v) → Vis X.env.scope x → ∃ u, RelV v u ∧ Look X.env s.heap m x u
  cell : ∀ x c, X.env.cells.lookup x = some c → ∃ v, s.heap.IsCell c v
  free : H X.env.locals = none
  freeC : ∀ x c, X.env.cells.lookup x = some c → H c = none
  pin : ∀ p ∈ X.pn ++ pins, s.heap.get? p.1 = some p.2 ∧ H p.1 = none ∧ p.1 ≠ X.env.locals ∧ p.1 ∉ X.fs ∧ ∀ v, p.2.data ≠ .cell v
  hok : HOk X.prog X.w H s.heap
  len : σ.length = X.N.length

section
variable {X : Cx} {pins : List (Addr × Obj)} {σ : List (Option V)} {H H' : Hp} {s : Shared} {h' : Heap}

theorem Cx.Ok.nofr (ok : X.Ok) {b : Addr} {o : Obj} (e : X.base.get? b = some o) : b ∉ X.fs := fun hb => by
  have := (ok.funs.mem hb).1
  rw [e] at this; cases this
theorem Inv.bs (I : Inv X pins σ H s) : ∀ b o, X.base.get? b = some o → s.heap.get? b = some o ∧ H b = none := fun b o e =>
  ⟨I.base.keep b o (I.ok.bs b o e).1 (I.ok.bs b o e).2 (I.ok.nofr e) (I.ok.noex b o e), I.base.free b o (I.ok.bs b o e).1 (I.ok.bs b o e).2 (I.ok.noex b o e)⟩
theorem Inv.bk (I : Inv X pins σ H s) : ∀ b o, X.base.get? b = some o → s.heap.get? b = some o := fun b o e => (I.bs b o e).1
theorem Inv.mod (I : Inv X pins σ H s) : Mod X.K X.mg X.base := I.ok.mod
theorem Inv.kIn (I : Inv X pins σ H s) : X.K.In s.heap := I.ok.mod.kin.keeps I.bk
theorem Inv.lt (I : Inv X pins σ H s) : X.env.locals < s.heap.objs.size := let ⟨_, hn, _⟩ := I.loc; hn.lt
theorem Inv.sz (I : Inv X pins σ H s) : X.s₀.heap.objs.size ≤ s.heap.objs.size := Nat.le_trans I.ok.above (Nat.le_of_lt I.lt)
theorem Inv.nofs (I : Inv X pins σ H s) {a : Addr} (h : s.heap.objs.size ≤ a) : a ∉ X.fs := fun hb => by
  obtain ⟨_, o, ho, _⟩ := I.ok.funs.mem hb
  exact absurd (Nat.lt_of_lt_of_le (Heap.lt_size ho) (Nat.le_trans I.sz h)) (Nat.lt_irrefl _)
theorem Inv.cne (I : Inv X pins σ H s) : ∀ x c, X.env.cells.lookup x = some c → c ≠ X.env.locals := fun x c e z => by
  obtain ⟨v, o, ho, hd⟩ := I.cell x c e
  obtain ⟨m, ⟨o', es, ep, ho', hd', _⟩, _⟩ := I.loc
  rw [z, ho'] at ho; cases ho; rw [hd'] at hd; cases hd
theorem Inv.funs (I : Inv X pins σ H s) : s.heap.FunFrames X.base X.outer := by
  have all : ∀ (l : List Env), (∀ b ∈ frs l, b ∈ X.fs) → X.s₀.heap.FunFrames X.base l → s.heap.FunFrames X.base l := by
    intro l
    induction l with
    | nil => intro _ _; trivial
    | cons env r ih =>
      intro hs hl
      obtain ⟨hk, ⟨L, o, hf, hn, ho, hd⟩, hr⟩ := hl
      have hL : L ∈ X.fs := hs L (by unfold frs; rw [List.filterMap_cons, hf]; exact List.mem_cons_self)
      obtain ⟨sl, e⟩ := I.base.slot L o ho (I.ok.frf L hL) hL fun z => I.ok.exfs L z hL
      exact ⟨hk, ⟨L, _, hf, hn, e, hd⟩, ih (fun b hb => hs b (by unfold frs; rw [List.filterMap_cons, hf]; exact List.mem_cons_of_mem _ hb)) hr⟩
  exact all X.outer (fun _ hb => hb) I.ok.funs

/-- the frames that run, for a call -/
theorem Inv.stack (I : Inv X pins σ H s) : s.heap.FunFrames X.base X.stack := by
  rcases I.ok.stk with e | ⟨e, hf⟩
  · rw [e]; exact I.funs
  · rw [e]
    obtain ⟨m, hn, _⟩ := I.loc
    refine .cons (by rw [I.ok.kind]; decide) hf hn ?_ I.funs
    exact Heap.get?_none_of_le (Nat.le_trans I.ok.bsz I.ok.above)
theorem Inv.stkSub (I : Inv X pins σ H s) : ∀ b ∈ frs X.stack, b ∈ X.env.locals :: X.fs := fun b hb => by
  rcases I.ok.stk with e | ⟨e, hf⟩
  · rw [e] at hb; exact List.mem_cons_of_mem _ hb
  · rw [e] at hb
    unfold frs at hb
    rw [List.filterMap_cons, hf] at hb
    exact hb
theorem Inv.stkFree (I : Inv X pins σ H s) : ∀ b ∈ frs X.stack, H b = none := fun b hb => by
  rcases List.mem_cons.mp (I.stkSub b hb) with e | hb
  · rw [e]; exact I.free
  · obtain ⟨_, o, ho, _⟩ := I.ok.funs.mem hb
    exact I.base.free b o ho (I.ok.frf b hb) fun z => I.ok.exfs b z hb

/-- THE STEP: the untracked objects but the frame and the records at ch are kept (the callers' frames up to slots), the frame's map is kept, the new abstract heap is held -/
theorem Inv.step {g' : Array GenState} {t' : Nat} {d' : Drawn} {ch : List Addr} (I : Inv X pins σ H s)
    (hch : ∀ b ∈ ch, (b ∈ X.ex ∨ X.s₀.heap.objs.size ≤ b) ∧ b ≠ X.env.locals ∧ (∀ x c, X.env.cells.lookup x = some c → c ≠ b) ∧ ∀ p ∈ X.pn ++ pins, p.1 ≠ b)
    (keep : ∀ b o, b ≠ X.env.locals → b ∉ X.fs → b ∉ ch → s.heap.get? b = some o → H b = none → h'.get? b = some o)
    (slot : ∀ b o, b ≠ X.env.locals → b ∈ X.fs → b ∉ ch → s.heap.get? b = some o → H b = none → ∃ sl, h'.get? b = some { o with slots := sl }) (free : ∀ b o, b ∉ ch → s.heap.get? b = some o → H b = none → H' b = none)
    (there : ∀ b o, b ∉ ch → s.heap.get? b = some o → ∃ o', h'.get? b = some o')
    (tups : ∀ b xs, H b = some (.tup xs) → H' b = some (.tup xs)) (frzs : ∀ b o u, H b = some (.frz o u) → H' b = some (.frz o u)) (tbls : ∀ b ps, H b = some (.tbl ps) → ∃ more, H' b = some (.tbl (ps ++ more)))
    (ns : ∀ m, s.heap.Ns X.env.locals m → h'.Ns X.env.locals m) (hok : HOk X.prog X.w H' h') (hg : AllBare g') :
    Inv X pins σ H' { s with heap := h', gens := g', drawn := d', toks := t' } := by
  have neL : ∀ b o, X.s₀.heap.get? b = some o → b ≠ X.env.locals := fun b o e => Nat.ne_of_lt (Nat.lt_of_lt_of_le (Heap.lt_size e) I.ok.above)
  have neC : ∀ b o, X.s₀.heap.get? b = some o → b ∉ X.ex → b ∉ ch := fun b o e hx hb => by
    rcases (hch b hb).1 with z | z
    · exact hx z
    · exact absurd (Nat.lt_of_lt_of_le (Heap.lt_size e) z) (Nat.lt_irrefl _)
  have cellK : ∀ x c, X.env.cells.lookup x = some c → ∀ v, s.heap.IsCell c v → h'.IsCell c v := fun x c e v ⟨o, ho, hd⟩ => by
    have nch : c ∉ ch := fun z => (hch c z).2.2.1 x c e rfl
    by_cases hc : c ∈ X.fs
    · obtain ⟨sl, q⟩ := slot c o (I.cne x c e) hc nch ho (I.freeC x c e)
      exact ⟨_, q, hd⟩
    · exact ⟨o, keep c o (I.cne x c e) hc nch ho (I.freeC x c e), hd⟩
  refine ⟨I.ok, I.os, hg, ⟨fun b o e n hb hx => ?_, fun b o e n hb hx => ?_, fun b o e n hx => ?_, fun b o e hx => ?_, fun b xs e => tups b xs (I.base.tups b xs e), fun b o xs e => frzs b o xs (I.base.frzs b o xs e), fun b ps e => ?_⟩, ?_, fun x c e => ?_, ?_, fun x c e => ?_, fun p hp => ?_, hok, I.len⟩
  · exact keep b o (neL b o e) hb (neC b o e hx) (I.base.keep b o e n hb hx) (I.base.free b o e n hx)
  · obtain ⟨sl, e1⟩ := I.base.slot b o e n hb hx
    obtain ⟨sl', e2⟩ := slot b _ (neL b o e) hb (neC b o e hx) e1 (I.base.free b o e n hx)
    exact ⟨sl', e2⟩
  · obtain ⟨o', e1⟩ := I.base.there b o e hx
    exact free b o' (neC b o e hx) e1 (I.base.free b o e n hx)
  · obtain ⟨o', e1⟩ := I.base.there b o e hx
    exact there b o' (neC b o e hx) e1
  · obtain ⟨m1, e1⟩ := I.base.tbls b ps e
    obtain ⟨m2, e2⟩ := tbls b _ e1
    exact ⟨m1 ++ m2, by rw [e2, Array.append_assoc]⟩
  · obtain ⟨m, hn, hl⟩ := I.loc
    refine ⟨m, ns m hn, fun i x v e1 e2 e3 => ?_⟩
    obtain ⟨u, r, l⟩ := hl i x v e1 e2 e3
    refine ⟨u, r, ?_⟩
    rcases l with l | ⟨k, c, e, z⟩
    · exact .inl l
    · exact .inr ⟨k, c, e, cellK x c e _ z⟩
  · obtain ⟨v, z⟩ := I.cell x c e
    exact ⟨v, cellK x c e v z⟩
  · obtain ⟨m, ⟨o, _, _, ho, _⟩, _⟩ := I.loc
    exact free _ o (fun z => (hch _ z).2.1 rfl) ho I.free
  · obtain ⟨v, o, ho, hd⟩ := I.cell x c e
    exact free c o (fun z => (hch c z).2.2.1 x c e rfl) ho (I.freeC x c e)
  · obtain ⟨e, n, ne, nf, d⟩ := I.pin p hp
    have nch : p.1 ∉ ch := fun z => (hch p.1 z).2.2.2 p hp rfl
    exact ⟨keep p.1 p.2 ne nf nch e n, free p.1 p.2 nch e n, ne, nf, d⟩
/-- .. where the frame's own object is kept too -/
theorem Inv.un {t' : Nat} (I : Inv X pins σ H s) (u : Un X.fs [] H H' s.heap h') (hok : HOk X.prog X.w H' h') : Inv X pins σ H' { s with heap := h', toks := t' } := by
  obtain ⟨m, ⟨o, es, ep, ho, r⟩, _⟩ := id I.loc
  obtain ⟨sl, hL⟩ := u.any ho I.free (by simp)
  exact I.step (g' := s.gens) (d' := s.drawn) (ch := []) (fun _ z => nomatch z) (fun b o _ hb _ e n => u.keep b o e n hb (by simp)) (fun b o _ hb _ e n => u.slot b o e n hb (by simp)) (fun b o _ e n => u.free b o e n (by simp)) (fun b o _ e => u.there b o e (by simp)) u.tups u.frzs u.tbls (fun m' hm => by
    obtain ⟨o', es', ep', ho', r'⟩ := hm
    rw [ho] at ho'; cases ho'
    exact ⟨_, es', ep', hL, r'⟩) hok I.bare
/-- behind a call (or a comprehension's block): the slots of this frame may have changed too, the records at ch may have turned -/
theorem Inv.call {g' : Array GenState} {t' : Nat} {d' : Drawn} {ch : List Addr} (I : Inv X pins σ H s) (u : Un (frs X.stack) ch H H' s.heap h') (hok : HOk X.prog X.w H' h') (hg : AllBare g')
    (hch : ∀ b ∈ ch, (b ∈ X.ex ∨ X.s₀.heap.objs.size ≤ b) ∧ b ≠ X.env.locals ∧ (∀ x c, X.env.cells.lookup x = some c → c ≠ b) ∧ ∀ p ∈ X.pn ++ pins, p.1 ≠ b) :
    Inv X pins σ H' { s with heap := h', gens := g', drawn := d', toks := t' } := by
  obtain ⟨m, ⟨o, es, ep, ho, r⟩, _⟩ := id I.loc
  obtain ⟨sl, hL⟩ := u.any ho I.free fun z => (hch _ z).2.1 rfl
  exact I.step (ch := ch) hch (fun b o hL hb hc e n => u.keep b o e n (fun z => (List.mem_cons.mp (I.stkSub b z)).elim hL hb) hc) (fun b o _ _ hc e n => u.any e n hc) (fun b o hc e n => u.free b o e n hc) (fun b o hc e => u.there b o e hc) u.tups u.frzs u.tbls (fun m' hm => by
    obtain ⟨o', es', ep', ho', r'⟩ := hm
    rw [ho] at ho'; cases ho'
    exact ⟨_, es', ep', hL, r'⟩) hok hg
/-- an untracked record of ours (an iterator) has turned -/
theorem Inv.turned {t' : Nat} {it : Addr} (I : Inv X pins σ H s) (k : ∀ b o, b ≠ it → s.heap.get? b = some o → h'.get? b = some o) (hn : H it = none) (hL : it ≠ X.env.locals)
    (h1 : it ∈ X.ex ∨ X.s₀.heap.objs.size ≤ it) (h2 : ∀ x c, X.env.cells.lookup x = some c → c ≠ it) (h3 : ∀ p ∈ X.pn ++ pins, p.1 ≠ it) : Inv X pins σ H { s with heap := h', toks := t' } := by
  have nit : ∀ b u, H b = some u → b ≠ it := fun b u e z => by rw [z, hn] at e; cases e
  refine I.step (g' := s.gens) (d' := s.drawn) (ch := [it]) (fun b hb => ?_) (fun b o _ _ hc e _ => k b o (fun z => hc (by simp [z])) e) (fun b o _ _ hc e _ => ⟨o.slots, k b o (fun z => hc (by simp [z])) e⟩) (fun _ _ _ _ n => n)
    (fun b o hc e => ⟨o, k b o (fun z => hc (by simp [z])) e⟩) (fun _ _ e => e) (fun _ _ _ e => e) (fun b ps e => ⟨#[], by rw [e]; simp⟩) (fun m hm => ?_) (fun b u e => ?_) I.bare
  · have e : b = it := by simpa using hb
    subst e
    exact ⟨h1, hL, h2, h3⟩
  · obtain ⟨o, es, ep, ho, r⟩ := hm
    exact ⟨o, es, ep, k _ o (Ne.symm hL) ho, r⟩
  · refine (I.hok b u e).stay (fun c v hc q => k c v ?_ q) (fun _ q => q) fun _ _ q => q
    rcases hc with z | z
    · rw [z]; exact nit b u e
    · exact nit c _ z
theorem Inv.tok (I : Inv X pins σ H s) (t : Nat) : Inv X pins σ H { s with toks := t } := I.un (h' := s.heap) (t' := t) Un.refl I.hok
/-- all objects kept -/
theorem Inv.kept {t' : Nat} (I : Inv X pins σ H s) (k : ∀ b u, s.heap.get? b = some u → h'.get? b = some u) : Inv X pins σ H { s with heap := h', toks := t' } := I.un (Un.kept k) (I.hok.kept k)
/-- a new object laid and tracked -/
theorem Inv.laid {a : Addr} {o : HO} {t' : Nat} (I : Inv X pins σ H s) (k : ∀ b u, s.heap.get? b = some u → h'.get? b = some u) (hp : s.heap.objs.size ≤ a) (new : ObjOk X.prog X.w (upd H a o) h' a o) :
    Inv X pins σ (upd H a o) { s with heap := h', toks := t' } := I.un (Un.laid k hp (I.hok.fresh hp)) (I.hok.laid k hp new)
/-- an object written -/
theorem Inv.write {x e : Addr} {o : HO} {t' : Nat} (I : Inv X pins σ H s) (mu : Mut (H x)) (he : e = x ∨ H e = some (.own x)) (k : ∀ b u, b ≠ e → s.heap.get? b = some u → h'.get? b = some u) (heo : ∃ u, h'.get? e = some u)
    (new : ObjOk X.prog X.w (upd H x o) h' x o) : Inv X pins σ (upd H x o) { s with heap := h', toks := t' } := I.un (Un.write mu he k heo) (I.hok.write mu he k heo new)
theorem Inv.pins_of {pins' : List (Addr × Obj)} (I : Inv X pins σ H s) (h : ∀ p ∈ pins', s.heap.get? p.1 = some p.2 ∧ H p.1 = none ∧ p.1 ≠ X.env.locals ∧ p.1 ∉ X.fs ∧ ∀ v, p.2.data ≠ .cell v) : Inv X pins' σ H s :=
  ⟨I.ok, I.os, I.bare, I.base, I.loc, I.cell, I.free, I.freeC, fun p hp => (List.mem_append.mp hp).elim (fun z => I.pin p (List.mem_append_left _ z)) (h p), I.hok, I.len⟩

theorem nodup_ix {N : List Str} (hN : N.Nodup) {i j : Nat} {x : Str} (a : N[i]? = some x) (b : N[j]? = some x) : i = j := by
  obtain ⟨h1, e1⟩ := List.getElem?_eq_some_iff.mp a
  obtain ⟨h2, e2⟩ := List.getElem?_eq_some_iff.mp b
  exact (List.getElem_inj hN).mp (e1.trans e2.symm)

/-- a name is stored; what changed -/
theorem store_ok2 {M : Model} {A : Around} {E : Value → Shared → Prop} {i : Nat} {x : Str} {v : V} {u : Value} {Q : Unit → Shared → Prop} (I : Inv X pins σ H s) (hN : X.N.Nodup) (hi : X.N[i]? = some x) (hx : Loc X.env.scope x) (r : RelV v u)
    (h : ∀ s', Inv X pins (σ.set i (some v)) H s' → (∃ a, Heap.SameBut a s.heap s'.heap ∧ (a = X.env.locals ∨ X.env.cells.lookup x = some a)) → Q () s') (hf : X.fn x = true ∨ X.env.scope.names.lookup x = some .local := by first | exact .inl rfl | exact .inr rfl | assumption) : wpAny M A (storeName X.env x u) Q E s := by
  obtain ⟨m, hn, hl⟩ := id I.loc
  have hcls : (X.env.scope.kind == .class || (X.env.scope.kind == .module && X.env.locals != X.env.globals)) = false := by rw [I.ok.kind]; rfl
  have hiσ : i < σ.length := by rw [I.len]; exact (List.getElem?_eq_some_iff.mp hi).1
  have cne := I.cne
  have tracked : ∀ {a : Addr} {h' : Heap}, (∃ o, s.heap.get? a = some o ∧ H a = none) → Heap.SameBut a s.heap h' → HOk X.prog X.w H h' := fun {a h'} ha hs b ob e => by
    obtain ⟨_, _, hfree⟩ := ha
    refine (I.hok b ob e).stay (fun c w' hc q => (hs.2 c ?_).trans q) (fun _ q => q) fun _ _ q => q
    rintro rfl
    rcases hc with rfl | hc
    · rw [hfree] at e; cases e
    · rw [hfree] at hc; cases hc
  rcases hx with hk | hk
  · refine wpAny_storeName_local hk hn (fun h' hn' hs => ?_) hcls
    obtain ⟨oL, _, _, hoL, _⟩ := id hn
    refine h _ ⟨I.ok, I.os, I.bare, ⟨fun b o e n hb hx => ?_, fun b o e n hb hx => ?_, I.base.free, fun b o e hx => ?_, I.base.tups, I.base.frzs, I.base.tbls⟩, ⟨_, hn', fun j y v' e1 e2 e3 => ?_⟩, fun y c e => ?_, I.free, I.freeC, fun p hp => ?_, tracked ⟨oL, hoL, I.free⟩ hs, by simpa using I.len⟩ ⟨_, hs, .inl rfl⟩
    · exact (hs.2 b (Nat.ne_of_lt (Nat.lt_of_lt_of_le (Heap.lt_size e) I.ok.above))).trans (I.base.keep b o e n hb hx)
    · obtain ⟨sl, e1⟩ := I.base.slot b o e n hb hx
      exact ⟨sl, (hs.2 b (Nat.ne_of_lt (Nat.lt_of_lt_of_le (Heap.lt_size e) I.ok.above))).trans e1⟩
    · obtain ⟨o', e1⟩ := I.base.there b o e hx
      exact ⟨o', (hs.2 b (Nat.ne_of_lt (Nat.lt_of_lt_of_le (Heap.lt_size e) I.ok.above))).trans e1⟩
    · by_cases hj : j = i
      · subst hj
        rw [hi] at e1; cases e1
        rw [List.getElem?_set_self hiσ] at e2
        cases e2
        exact ⟨u, r, .inl ⟨hk, by simp⟩⟩
      · rw [List.getElem?_set_ne (Ne.symm hj)] at e2
        obtain ⟨u', r', q⟩ := hl j y v' e1 e2 e3
        refine ⟨u', r', ?_⟩
        rcases q with ⟨k, e⟩ | ⟨k, c, e, z⟩
        · refine .inl ⟨k, ?_⟩
          have : y ≠ x := fun e => hj (nodup_ix hN e1 (e ▸ hi))
          simp [this, e]
        · exact .inr ⟨k, c, e, z.sameBut hs (cne y c e)⟩
    · obtain ⟨w', z⟩ := I.cell y c e
      exact ⟨w', z.sameBut hs (cne y c e)⟩
    · obtain ⟨e, n, ne, nf, d⟩ := I.pin p hp
      exact ⟨(hs.2 p.1 ne).trans e, n, ne, nf, d⟩
  · have hfn : X.fn x = true := by
      rcases hf with z | z
      · exact z
      · rw [z] at hk; cases hk
    obtain ⟨c, hc⟩ := I.ok.has x (.inl hk)
    obtain ⟨w', z⟩ := I.cell x c hc
    refine wpAny_storeName_cell I.ok.kind hk hc z (fun h' hc' hs => ?_)
    obtain ⟨oc, hoc, hocd⟩ := id z
    refine h { s with heap := h' } ⟨I.ok, I.os, I.bare, ⟨fun b o e n hb hx => ?_, fun b o e n hb hx => ?_, I.base.free, fun b o e hx => ?_, I.base.tups, I.base.frzs, I.base.tbls⟩, ⟨m, hn.sameBut hs (Ne.symm (cne x c hc)), fun j y v' e1 e2 e3 => ?_⟩, fun y c' e => ?_, I.free, I.freeC, fun p hp => ?_, tracked ⟨oc, hoc, I.freeC x c hc⟩ hs, by simpa using I.len⟩ ⟨c, hs, .inr hc⟩
    · exact (hs.2 b (Nat.ne_of_lt (Nat.lt_of_lt_of_le (Heap.lt_size e) (I.ok.cab x c hfn hc)))).trans (I.base.keep b o e n hb hx)
    · obtain ⟨sl, e1⟩ := I.base.slot b o e n hb hx
      exact ⟨sl, (hs.2 b (Nat.ne_of_lt (Nat.lt_of_lt_of_le (Heap.lt_size e) (I.ok.cab x c hfn hc)))).trans e1⟩
    · obtain ⟨o', e1⟩ := I.base.there b o e hx
      exact ⟨o', (hs.2 b (Nat.ne_of_lt (Nat.lt_of_lt_of_le (Heap.lt_size e) (I.ok.cab x c hfn hc)))).trans e1⟩
    · by_cases hj : j = i
      · subst hj
        rw [hi] at e1; cases e1
        rw [List.getElem?_set_self hiσ] at e2
        cases e2
        exact ⟨u, r, .inr ⟨.inl hk, c, hc, hc'⟩⟩
      · rw [List.getElem?_set_ne (Ne.symm hj)] at e2
        obtain ⟨u', r', q⟩ := hl j y v' e1 e2 e3
        refine ⟨u', r', ?_⟩
        rcases q with q | ⟨k, c', e, z'⟩
        · exact .inl q
        · refine .inr ⟨k, c', e, z'.sameBut hs ?_⟩
          rintro rfl
          exact hj (nodup_ix hN e1 (I.ok.inj _ _ _ e hc ▸ hi))
    · by_cases hcc : c' = c
      · subst hcc; exact ⟨_, hc'⟩
      · obtain ⟨w2, z2⟩ := I.cell y c' e
        exact ⟨w2, z2.sameBut hs hcc⟩
    · obtain ⟨e, n, ne, nf, d⟩ := I.pin p hp
      refine ⟨(hs.2 p.1 ?_).trans e, n, ne, nf, d⟩
      intro q
      rw [q, hoc] at e
      have q' : oc = p.2 := Option.some.inj e
      exact d w' (by rw [← q']; exact hocd)
theorem store_ok {M : Model} {A : Around} {E : Value → Shared → Prop} {i : Nat} {x : Str} {v : V} {u : Value} {Q : Unit → Shared → Prop} (I : Inv X pins σ H s) (hN : X.N.Nodup) (hi : X.N[i]? = some x) (hx : Loc X.env.scope x) (r : RelV v u)
    (h : ∀ s', Inv X pins (σ.set i (some v)) H s' → Q () s') (hf : X.fn x = true ∨ X.env.scope.names.lookup x = some .local := by first | exact .inl rfl | exact .inr rfl | assumption) : wpAny M A (storeName X.env x u) Q E s :=
  store_ok2 I hN hi hx r (fun s' I' _ => h s' I') hf
/-- behind a call or a block, the state as it is -/
theorem Inv.call' {s' : Shared} {ch : List Addr} (I : Inv X pins σ H s) (ho : s'.os = s.os) (u : Un (frs X.stack) ch H H' s.heap s'.heap) (hok : HOk X.prog X.w H' s'.heap) (hg : AllBare s'.gens)
    (hch : ∀ b ∈ ch, (b ∈ X.ex ∨ X.s₀.heap.objs.size ≤ b) ∧ b ≠ X.env.locals ∧ (∀ x c, X.env.cells.lookup x = some c → c ≠ b) ∧ ∀ p ∈ X.pn ++ pins, p.1 ≠ b) : Inv X pins σ H' s' := by
  obtain ⟨h', g', d', t', o'⟩ := s'
  have e : o' = s.os := ho
  subst e
  exact I.call (g' := g') (t' := t') (d' := d') u hok hg hch
end

/-! ### the judgements -/
/-- an exception: its class, its own dict's address (where it has one), the abstract heap behind it -/
abbrev XK := Value → Option Addr → Hp → Prop
abbrev St := List (Option V)
abbrev VK := V → Hp → Prop
/-- an expression's reading; a test's; an argument list's -/
abbrev TE := St → Hp → VK → Prop
abbrev TT := St → Hp → (Bool → Hp → Prop) → Prop
abbrev TA := St → Hp → (List V → Hp → Prop) → Prop
/-- what is wanted behind a statement -/
structure Ends where
  nx : St → Hp → Prop
  rt : VK
  bk : St → Hp → Prop := fun _ _ => False
  ct : St → Hp → Prop := fun _ _ => False
abbrev TS := Ends → St → Hp → Prop

def EP (X : Cx) (pins : List (Addr × Obj)) (σ : St) (Q : VK) (u : Value) (s' : Shared) : Prop := ∃ v H', Inv X pins σ H' s' ∧ RelV v u ∧ Q v H'
def TP (X : Cx) (pins : List (Addr × Obj)) (σ : St) (Q : Bool → Hp → Prop) (b : Bool) (s' : Shared) : Prop := ∃ H', Inv X pins σ H' s' ∧ Q b H'
def AP (X : Cx) (pins : List (Addr × Obj)) (σ : St) (Q : List V → Hp → Prop) (us : List Value) (s' : Shared) : Prop := ∃ vs H', Inv X pins σ H' s' ∧ Vals vs us ∧ Q vs H'
def SP (X : Cx) (pins : List (Addr × Obj)) (D : Ends) (f : Flow) (s' : Shared) : Prop :=
  match f with
  | .next => ∃ σ' H', Inv X pins σ' H' s' ∧ D.nx σ' H'
  | .brk => ∃ σ' H', Inv X pins σ' H' s' ∧ D.bk σ' H'
  | .cont => ∃ σ' H', Inv X pins σ' H' s' ∧ D.ct σ' H'
  | .ret u => ∃ v σ' H', Inv X pins σ' H' s' ∧ RelV v u ∧ D.rt v H'

def PE (X : Cx) (e : Expr) (t : TE) : Prop :=
  ∀ (pins : List (Addr × Obj)) (s : Shared) (σ : St) (H : Hp) (Q : VK), Inv X pins σ H s → t σ H Q → wpAny (model X.prog X.w) X.A (eval e X.env) (EP X pins σ Q) X.xe s
def PT (X : Cx) (e : Expr) (t : TT) : Prop :=
  ∀ (pins : List (Addr × Obj)) (s : Shared) (σ : St) (H : Hp) (Q : Bool → Hp → Prop), Inv X pins σ H s → t σ H Q → wpAny (model X.prog X.w) X.A (isTrue e X.env (eval e X.env)) (TP X pins σ Q) X.xe s
/-- a test whatever its 'whole' is (and, or) -/
def PW (X : Cx) (e : Expr) (t : TT) : Prop :=
  ∀ (whole : Sem Value) (pins : List (Addr × Obj)) (s : Shared) (σ : St) (H : Hp) (Q : Bool → Hp → Prop), Inv X pins σ H s → t σ H Q → wpAny (model X.prog X.w) X.A (isTrue e X.env whole) (TP X pins σ Q) X.xe s
theorem PW.pt {X : Cx} {e : Expr} {t : TT} (h : PW X e t) : PT X e t := h _
/-- an argument list (no star), from the left -/
def PA (X : Cx) (es : List Expr) (t : TA) : Prop :=
  ∀ (pos : Pos) (pins : List (Addr × Obj)) (s : Shared) (σ : St) (H : Hp) (Q : List V → Hp → Prop), Inv X pins σ H s → t σ H Q → wpAny (model X.prog X.w) X.A (spliced (backTo pos (starEach es X.env))) (AP X pins σ Q) X.xe s
def PS (X : Cx) (st : Stmt) (t : TS) : Prop :=
  ∀ (pins : List (Addr × Obj)) (s : Shared) (σ : St) (H : Hp) (D : Ends), Inv X pins σ H s → t D σ H → wpAny (model X.prog X.w) X.A (exec st X.env) (SP X pins D) X.xe s
def PSs (X : Cx) (st : List Stmt) (t : TS) : Prop :=
  ∀ (pins : List (Addr × Obj)) (s : Shared) (σ : St) (H : Hp) (D : Ends), Inv X pins σ H s → t D σ H → wpAny (model X.prog X.w) X.A (execs st X.env) (SP X pins D) X.xe s
/-- weaken the end -/
theorem thn {α : Type} {t : Sem α} {Q Q' : α → Shared → Prop} {M : Model} {A : Around} {E : Value → Shared → Prop} {s : Shared} (h : wpAny M A t Q E s) (hQ : ∀ a s, Q a s → Q' a s) : wpAny M A t Q' E s := wpAny_mono h hQ fun _ _ x => x
end L2

namespace L2
open PySem PySem.Spec PyProof.Rows
section
variable {X : Cx}

/-! ### names and constants -/
def tVar (i : Nat) : TE := fun σ H Q => ∃ v, σ[i]? = some (some v) ∧ Q v H
def tC (v : V) : TE := fun _ H Q => Q v H
theorem pe_var {i : Nat} {x : Str} {pos : Pos} (hN : X.N[i]? = some x) (hv : Vis X.env.scope x) (hd : (x == ("__debug__" : Str)) = false := by decide) (hcd : (x == ("__classdict__" : Str)) = false := by decide) : PE X (.Name x pos) (tVar i) := by
  intro pins s σ H Q I h
  obtain ⟨v, e, h⟩ := h
  obtain ⟨m, hn, hl⟩ := I.loc
  obtain ⟨u, r, l⟩ := hl i x v hN e hv
  have fin : EP X pins σ Q u s := ⟨v, H, I, r, h⟩
  rcases l with ⟨hk, hm⟩ | ⟨hk, c, hc, hcell⟩
  · exact wpAny_Name (wpAny_loadName_local I.ok.kind hk hn hm fin) hd
  · rcases hk with hk | hk
    · exact wpAny_Name (wpAny_loadName_cell I.ok.kind hk hc hcell fin) hd
    · exact wpAny_Name (wpAny_loadName_free I.ok.kind hk hc hcell fin hcd) hd
theorem pe_int {i j pos} : PE X (.Constant (.int i) j pos) (tC (.int i)) := fun _ _ _ H _ I h => wpAny_Constant_int ⟨.int i, H, I.tok _, ⟨_, rfl⟩, h⟩
theorem pe_bl {b j pos} : PE X (.Constant (.bool b) j pos) (tC (.bl b)) := fun _ _ _ H _ I h => Constant_bool ⟨.bl b, H, I, rfl, h⟩
theorem pe_non {j pos} : PE X (.Constant .none j pos) (tC .non) := fun _ _ _ H _ I h => Constant_none ⟨.non, H, I, rfl, h⟩
theorem pe_str {x j pos} : PE X (.Constant (.str x) j pos) (tC (.str x)) := fun _ _ _ H _ I h => Calls.Constant_str ⟨.str x, H, I.tok _, ⟨_, rfl⟩, h⟩

/-- a global name of the def -/
def Gl (X : Cx) (x : Str) : Prop := X.env.kindOf x = some .globalImplicit
theorem ld_glob {E : Value → Shared → Prop} {pins : List (Addr × Obj)} {s : Shared} {σ : St} {H : Hp} {x : Str} {u : Value} {pos : Pos} {Q : Value → Shared → Prop} (I : Inv X pins σ H s) (hg : Gl X x) (hm : X.mg x = some u) (h : Q u s)
    (hd : (x == ("__debug__" : Str)) = false := by decide) : wpAny (model X.prog X.w) X.A (eval (.Name x pos) X.env) Q E s :=
  Calls.Name_function_global I.ok.kind hg (Calls.loadGlobal_global (by rw [I.ok.glob]; exact I.mod.glob.keeps I.bk) hm h) hd
theorem ld_blt {E : Value → Shared → Prop} {pins : List (Addr × Obj)} {s : Shared} {σ : St} {H : Hp} {x : Str} {u : Value} {pos : Pos} {Q : Value → Shared → Prop} (I : Inv X pins σ H s) (hg : Gl X x) (hm : X.mg x = none) (hv : bootBuiltins x = some u) (h : Q u s)
    (hn : x ≠ "__name__" := by decide) (hd : (x == ("__debug__" : Str)) = false := by decide) : wpAny (model X.prog X.w) X.A (eval (.Name x pos) X.env) Q E s := by
  obtain ⟨mb, h1, h2⟩ := I.mod.blt
  exact Calls.Name_function_global I.ok.kind hg (Calls.loadGlobal_builtin (by rw [I.ok.glob]; exact I.mod.glob.keeps I.bk) hm (by rw [I.ok.blt]; exact h1.keeps I.bk) ((h2 x hn).trans hv) h) hd
/-- a module's constant, a class, a function, as a value -/
theorem pe_glob {x : Str} {v : V} {u : Value} {pos : Pos} (hg : Gl X x) (hm : X.mg x = some u) (r : RelV v u) (hd : (x == ("__debug__" : Str)) = false := by decide) : PE X (.Name x pos) (tC v) :=
  fun _ _ _ H _ I h => ld_glob I hg hm ⟨v, H, I, r, h⟩ hd
theorem pe_bltn {x : Str} {v : V} {u : Value} {pos : Pos} (hg : Gl X x) (hm : X.mg x = none) (hv : bootBuiltins x = some u) (r : RelV v u) (hn : x ≠ "__name__" := by decide) (hd : (x == ("__debug__" : Str)) = false := by decide) : PE X (.Name x pos) (tC v) :=
  fun _ _ _ H _ I h => ld_blt I hg hm hv ⟨v, H, I, r, h⟩ hn hd

/-! ### arithmetic -/
variable {a b : Expr} {ta tb : TE} {pos : Pos}
/-! ### comparisons -/
/-- a comparison as a value, as a test -/
def tB (t : TE) : TT := fun σ H Q => t σ H fun x H1 => ∃ c, x = .bl c ∧ Q c H1
/-- an expression whose value is a bool, as a test -/
theorem pt_val {e : Expr} {t : TE} (h : PE X e t) (he : ∀ whole, isTrue e X.env whole = (do let v ← whole; standAt e.pos; holding [v] (truthy v)) := by intro _; rfl) : PT X e (tB t) := by
  intro pins s σ H Q I hw
  refine isTrue_plain (thn (h pins s σ H _ I hw) fun v s1 ⟨x, H1, I1, r1, q1⟩ => ?_) (he _)
  obtain ⟨d, rfl, q⟩ := q1
  cases r1
  exact wpAny_truthy_bool ⟨H1, I1, q⟩

/-! ### and, or, not -/
variable {tA tB' : TT} {rest : List Expr}
def tAnd (t u : TT) : TT := fun σ H Q => t σ H fun c H1 => if c = true then u σ H1 Q else Q false H1
def tOr (t u : TT) : TT := fun σ H Q => t σ H fun c H1 => if c = true then Q true H1 else u σ H1 Q
def tNot (t : TT) : TT := fun σ H Q => t σ H fun c H1 => Q (!c) H1
theorem pw_and1 (ha : PT X a tA) : PW X (.BoolOp .And [a] pos) tA := by
  intro wh pins s σ H Q I h
  refine isTrue_and (thn (ha pins s σ H Q I h) fun c s1 e => ?_)
  cases c with
  | true => exact isTrue_and_nil e
  | false => exact e
theorem pw_or1 (ha : PT X a tA) : PW X (.BoolOp .Or [a] pos) tA := by
  intro wh pins s σ H Q I h
  refine isTrue_or (thn (ha pins s σ H Q I h) fun c s1 e => ?_)
  cases c with
  | false => exact isTrue_or_nil e
  | true => exact e
theorem pw_and (ha : PT X a tA) (hb : PW X (.BoolOp .And (b :: rest) pos) tB') : PW X (.BoolOp .And (a :: b :: rest) pos) (tAnd tA tB') := by
  intro wh pins s σ H Q I h
  refine isTrue_and (thn (ha pins s σ H _ I h) fun c s1 ⟨H1, I1, q1⟩ => ?_)
  cases c with
  | true => exact hb wh pins s1 σ H1 Q I1 q1
  | false => exact ⟨H1, I1, q1⟩
theorem pw_or (ha : PT X a tA) (hb : PW X (.BoolOp .Or (b :: rest) pos) tB') : PW X (.BoolOp .Or (a :: b :: rest) pos) (tOr tA tB') := by
  intro wh pins s σ H Q I h
  refine isTrue_or (thn (ha pins s σ H _ I h) fun c s1 ⟨H1, I1, q1⟩ => ?_)
  cases c with
  | true => exact ⟨H1, I1, q1⟩
  | false => exact hb wh pins s1 σ H1 Q I1 q1
theorem pt_not (ha : PT X a tA) : PT X (.UnaryOp .Not a pos) (tNot tA) := by
  intro pins s σ H Q I h
  exact isTrue_not (ha pins s σ H (fun c H1 => Q (!c) H1) I h)
end
end L2

namespace L2
open PySem PySem.Spec PyProof.Rows

/-! ### a list, a tuple that is read: tracked, frozen, or an object of the module -/
def SqL (K : PySem.W.Frag) (H : Hp) (a : Addr) (xs : List V) : Prop :=
  Rd H a (.lst xs) ∨
    ∃ (o : Obj) (its : Array Value) (n : Nat), K.lookup a = some o ∧ o.cls = .type "list" ∧ o.dict = none ∧ o.data = .seq its n ∧ its.size ≤ sizeLine ∧ Vals xs its.toList
def SqT (K : PySem.W.Frag) (H : Hp) (a : Addr) (xs : List V) : Prop :=
  Rd H a (.tup xs) ∨
    ∃ (o : Obj) (its : Array Value) (n : Nat), K.lookup a = some o ∧ o.cls = .type "tuple" ∧ o.data = .seq its n ∧ its.size ≤ sizeLine ∧ Vals xs its.toList
def absV : Value → Option V
  | .none => some .non
  | .bool b => some (.bl b)
  | .int i _ => some (.int i)
  | .str x _ => some (.str x)
  | .bytes b _ => some (.byt b)
  | .float b _ => some (.flt b)
  | .ref a => some (.ref a)
  | .type n => some (.ty n)
  | _ => none
theorem RelV.abs {x : V} {u : Value} (r : RelV x u) : absV u = some x := by
  cases x with
  | non => cases r; rfl
  | bl _ => cases r; rfl
  | int _ => obtain ⟨t, rfl⟩ := r; rfl
  | str _ => obtain ⟨t, rfl⟩ := r; rfl
  | byt _ => obtain ⟨t, rfl⟩ := r; rfl
  | flt _ => obtain ⟨t, rfl⟩ := r; rfl
  | ref _ => cases r; rfl
  | ty _ => cases r; rfl
theorem RelV.inj {x y : V} {u : Value} (r : RelV x u) (q : RelV y u) : x = y := Option.some.inj (r.abs.symm.trans q.abs)
theorem Vals.inj : ∀ {xs ys : List V} {us : List Value}, Vals xs us → Vals ys us → xs = ys
  | _, _, _, .nil, .nil => rfl
  | _, _, _, .cons r t, .cons r' t' => by rw [r.inj r', Vals.inj t t']
section
variable {X : Cx} {pins : List (Addr × Obj)} {σ : St} {H : Hp} {s : Shared} {a : Addr} {xs ys : List V}
theorem SqL.of {K : PySem.W.Frag} (h : H a = some (.lst xs)) : SqL K H a xs := .inl (.inl h)
theorem SqT.of {K : PySem.W.Frag} (h : H a = some (.tup xs)) : SqT K H a xs := .inl (.inl h)
theorem Inv.list (I : Inv X pins σ H s) (h : SqL X.K H a xs) : ∃ its : List Value, Vals xs its ∧ PlainL s.heap a its.toArray ∧ xs.length ≤ sizeLine := by
  rcases h with h | ⟨o, its, n, hk, hc, hd, hs, hz, r⟩
  · obtain ⟨z, its, n, r, e⟩ := h.ok I.hok
    exact ⟨its, r, ⟨_, n, e, rfl, rfl, rfl⟩, z⟩
  · refine ⟨its.toList, r, ⟨o, n, I.kIn a o hk, hc, hd, by simpa using hs⟩, ?_⟩
    have e := r.length
    simp only [Array.length_toList] at e
    omega
theorem Inv.tuple (I : Inv X pins σ H s) (h : SqT X.K H a xs) : ∃ its : List Value, Vals xs its ∧ IsTup s.heap a its.toArray ∧ xs.length ≤ sizeLine := by
  rcases h with h | ⟨o, its, n, hk, hc, hs, hz, r⟩
  · obtain ⟨z, its, r, p⟩ := h.ok I.hok
    exact ⟨its, r, p, z⟩
  · refine ⟨its.toList, r, ⟨o, I.kIn a o hk, hc, n, by simpa using hs⟩, ?_⟩
    have e := r.length
    simp only [Array.length_toList] at e
    omega
theorem Inv.list_inj (I : Inv X pins σ H s) (h : SqL X.K H a xs) (h' : SqL X.K H a ys) : xs = ys := by
  obtain ⟨its, r, ⟨o, n, e, _, _, d⟩, _⟩ := I.list h
  obtain ⟨its', r', ⟨o', n', e', _, _, d'⟩, _⟩ := I.list h'
  rw [e] at e'; cases e'
  rw [d] at d'
  injection d' with d1 _
  have : its = its' := by simpa using congrArg Array.toList d1
  subst this
  exact r.inj r'
end

/-! ### another wish about exceptions -/
abbrev Cx.wish (X : Cx) (E : Value → Shared → Prop) : Cx := { X with xe := E }
/-- no exception leaves -/
abbrev Cx.nox (X : Cx) : Cx := X.wish fun _ _ => False
theorem Cx.Ok.wish {X : Cx} (ok : X.Ok) (E : Value → Shared → Prop) : (X.wish E).Ok :=
  ⟨ok.mod, ok.kind, ok.glob, ok.blt, ok.above, ok.inj, ok.has, ok.cab, ok.hd, ok.frames, ok.stk, ok.exf, ok.bs, ok.bsz, ok.noex, ok.exfs, ok.funs, ok.frf⟩
theorem Cx.Ok.unwish {X : Cx} {E : Value → Shared → Prop} (ok : (X.wish E).Ok) : X.Ok :=
  ⟨ok.mod, ok.kind, ok.glob, ok.blt, ok.above, ok.inj, ok.has, ok.cab, ok.hd, ok.frames, ok.stk, ok.exf, ok.bs, ok.bsz, ok.noex, ok.exfs, ok.funs, ok.frf⟩
section
variable {X : Cx} {pins : List (Addr × Obj)} {σ : St} {H : Hp} {s : Shared} {E : Value → Shared → Prop}
theorem Inv.wish (I : Inv X pins σ H s) (E : Value → Shared → Prop) : Inv (X.wish E) pins σ H s := ⟨I.ok.wish E, I.os, I.bare, I.base, I.loc, I.cell, I.free, I.freeC, I.pin, I.hok, I.len⟩
theorem Inv.unwish (I : Inv (X.wish E) pins σ H s) : Inv X pins σ H s := ⟨I.ok.unwish, I.os, I.bare, I.base, I.loc, I.cell, I.free, I.freeC, I.pin, I.hok, I.len⟩
end

/-! ### blocks and small statements -/
section
variable {X : Cx} {st : Stmt} {rest : List Stmt} {t u : TS} {e : Expr} {te : TE} {pos : Pos}
def tNext : TS := fun D σ H => D.nx σ H
def tSeq (t u : TS) : TS := fun D σ H => t { D with nx := u D } σ H
theorem pss_nil : PSs X [] tNext := fun _ _ σ H _ I h => wpAny_execs_nil ⟨σ, H, I, h⟩
theorem pss_cons (h1 : PS X st t) (h2 : PSs X rest u) : PSs X (st :: rest) (tSeq t u) := by
  intro pins s σ H D I h
  refine wpAny_execs_cons (thn (h1 pins s σ H { D with nx := u D } I h) fun f s1 q => ?_)
  cases f with
  | next =>
    obtain ⟨σ', H', I', q⟩ := q
    exact h2 pins s1 σ' H' D I' q
  | ret v => exact q
  | brk => exact q
  | cont => exact q
theorem pss_one (h1 : PS X st t) : PSs X [st] t := by
  intro pins s σ H D I h
  refine wpAny_execs_cons (thn (h1 pins s σ H D I h) fun f s1 q => ?_)
  cases f with
  | next => exact wpAny_execs_nil q
  | ret v => exact q
  | brk => exact q
  | cont => exact q
/-- in a def's body nothing is shown -/
theorem Inv.quiet {pins : List (Addr × Obj)} {σ : St} {H : Hp} {s : Shared} (I : Inv X pins σ H s) : interactive X.env = false := by simp [interactive, I.ok.kind]
/-- an expression whose value is dropped -/
def tDrop (te : TE) : TS := fun D σ H => te σ H fun _ H1 => D.nx σ H1
theorem ps_expr (he : PE X e te) (hs : swapsWith e none pos.line X.env = pure false := by rfl) : PS X (.Expr e pos) (tDrop te) := by
  intro pins s σ H D I h
  exact wpAny_Expr_any (thn (he pins s σ H _ I h) fun v s1 ⟨x, H1, I1, r1, q1⟩ => ⟨σ, H1, I1, q1⟩) I.quiet hs
def tRet (te : TE) : TS := fun D σ H => te σ H D.rt
theorem ps_ret (he : PE X e te) : PS X (.Return (some e) pos) (tRet te) := by
  intro pins s σ H D I h
  exact wpAny_Return_some (thn (he pins s σ H _ I h) fun v s1 ⟨x, H1, I1, r1, q1⟩ => ⟨x, σ, H1, I1, r1, q1⟩)
def tIfS (c : TT) (t u : TS) : TS := fun D σ H => c σ H fun b H1 => if b = true then t D σ H1 else u D σ H1
theorem ps_if {c : Expr} {a b : List Stmt} {tc : TT} (hc : PT X c tc) (ha : PSs X a t) (hb : PSs X b u) : PS X (.If c a b pos) (tIfS tc t u) := by
  intro pins s σ H D I h
  refine wpAny_If (thn (hc pins s σ H _ I h) fun d s1 ⟨H1, I1, q1⟩ => ?_)
  cases d with
  | true => exact ha pins s1 σ H1 D I1 q1
  | false => exact hb pins s1 σ H1 D I1 q1
end

/-! ### targets -/
abbrev TG := V → St → Hp → (St → Hp → Prop) → Prop
abbrev TGs := List V → St → Hp → (St → Hp → Prop) → Prop
def PG (X : Cx) (target : Expr) (t : TG) : Prop :=
  ∀ (pins : List (Addr × Obj)) (s : Shared) (σ : St) (H : Hp) (v : V) (u : Value) (Q : St → Hp → Prop), Inv X pins σ H s → RelV v u → t v σ H Q →
    wpAny (model X.prog X.w) X.A (assign target X.env u) (fun _ s' => ∃ σ' H', Inv X pins σ' H' s' ∧ Q σ' H') X.xe s
/-- several targets, one after another -/
def PGs (X : Cx) (ts : List Expr) (t : TGs) : Prop :=
  ∀ (pins : List (Addr × Obj)) (s : Shared) (σ : St) (H : Hp) (vs : List V) (us : List Value) (Q : St → Hp → Prop), Inv X pins σ H s → Vals vs us → t vs σ H Q →
    wpAny (model X.prog X.w) X.A (assignInOrder ((assignEach ts X.env).map (·.2)) us) (fun _ s' => ∃ σ' H', Inv X pins σ' H' s' ∧ Q σ' H') X.xe s
/-- o[i] = v, by values -/
abbrev TSet := V → V → V → Hp → (Hp → Prop) → Prop
def PSet (X : Cx) (t : TSet) : Prop :=
  ∀ (pins : List (Addr × Obj)) (s : Shared) (σ : St) (H : Hp) (o i v : V) (ov iv u : Value) (Q : Hp → Prop), Inv X pins σ H s → RelV o ov → RelV i iv → RelV v u → t o i v H Q →
    wpAny (model X.prog X.w) X.A (setItem ov iv u) (fun _ s' => ∃ H', Inv X pins σ H' s' ∧ Q H') X.xe s
section
variable {X : Cx} {pos : Pos}
def gName (i : Nat) : TG := fun v σ H Q => Q (σ.set i (some v)) H
theorem pg_name {i : Nat} {x : Str} (hN : X.N.Nodup) (hi : X.N[i]? = some x) (hx : Loc X.env.scope x) (hf : X.fn x = true ∨ X.env.scope.names.lookup x = some .local := by first | exact .inl rfl | exact .inr rfl | assumption) : PG X (.Name x pos) (gName i) := by
  intro pins s σ H v u Q I r h
  exact wpAny_assign_Name (store_ok I hN hi hx r (fun s' I' => ⟨_, H, I', h⟩) hf)
def gNil : TGs := fun vs σ H Q => vs = [] ∧ Q σ H
def gCons (t : TG) (u : TGs) : TGs := fun vs σ H Q => ∃ v r, vs = v :: r ∧ t v σ H fun σ' H' => u r σ' H' Q
theorem pgs_nil : PGs X [] gNil := by
  intro pins s σ H vs us Q I r h
  obtain ⟨e, h⟩ := h
  subst e
  cases r
  exact assignInOrder_nil ⟨σ, H, I, h⟩
theorem pgs_cons {e : Expr} {es : List Expr} {t : TG} {u : TGs} (h1 : PG X e t) (h2 : PGs X es u)
    (hs : (assignEach (e :: es) X.env).map (·.2) = assign e X.env :: (assignEach es X.env).map (·.2) := by rfl) : PGs X (e :: es) (gCons t u) := by
  intro pins s σ H vs us Q I r h
  obtain ⟨v, vr, e1, h⟩ := h
  subst e1
  cases r with
  | cons r rr =>
    rw [hs]
    refine assignInOrder_cons (thn (h1 pins s σ H _ _ _ I r h) fun _ s1 ⟨σ1, H1, I1, q1⟩ => ?_)
    exact h2 pins s1 σ1 H1 _ _ Q I1 rr q1
/-- (a, b, ..) = a tuple of that length -/
def gTup (K : PySem.W.Frag) (n : Nat) (t : TGs) : TG := fun v σ H Q => ∃ a xs, v = .ref a ∧ SqT K H a xs ∧ xs.length = n ∧ t xs σ H Q
theorem pg_tup {es : List Expr} {k : Nat} {t : TGs} {n : Nat} (hc : X.calm = true) (h : PGs X es t)
    (hn : (assignEach es X.env).length = n := by rfl) (hst : (assignEach es X.env).findIdx? (·.1) = none := by rfl) : PG X (.Tuple es k pos) (gTup X.K n t) := by
  intro pins s σ H v u Q I r hw
  obtain ⟨a, xs, e1, hq, hl, hw⟩ := hw
  subst e1
  cases r
  obtain ⟨its, rv, ht, hz⟩ := I.tuple hq
  refine assign_Tuple_tuple (I.ok.hd hc) ht (by simp [hn, ← hl, rv.length]) hst fun h' hx => ?_
  have I1 : Inv X pins σ H { s with heap := h' } := I.kept (t' := s.toks) fun b o e => hx b o (Nat.ne_of_lt (Heap.lt_size e)) e
  exact h pins _ σ H xs _ Q I1 (by simpa using rv) hw
/-- o[i] = .. -/
def gSub (to ti : TE) (t : TSet) : TG := fun v σ H Q => to σ H fun o H1 => ti σ H1 fun i H2 => t o i v H2 fun H3 => Q σ H3
theorem pg_sub {o i : Expr} {to ti : TE} {t : TSet} (ho : PE X o to) (hi : PE X i ti) (hs : PSet X t)
    (ha : ∀ v, assign (.Subscript o i pos) X.env v = (do
      let ov ← holding [v] (eval o X.env)
      let iv ← holding [v, ov] (eval i X.env)
      standAt pos
      holding [v, ov, iv] (setItem ov iv v)
      release [v, ov, iv] []) := by intro _; rfl) : PG X (.Subscript o i pos) (gSub to ti t) := by
  intro pins s σ H v u Q I r h
  rw [ha]
  refine wpAny_bind (wpAny_holding (thn (ho pins s σ H _ I h) fun ov s1 ⟨x, H1, I1, r1, q1⟩ => ?_))
  refine wpAny_bind (wpAny_holding (thn (hi pins s1 σ H1 _ I1 q1) fun iv s2 ⟨y, H2, I2, r2, q2⟩ => ?_))
  refine wpAny_bind (wpAny_standAt (wpAny_bind (wpAny_holding (thn (hs pins s2 σ H2 x y v ov iv u _ I2 r1 r2 r q2) fun _ s3 ⟨H3, I3, q3⟩ => ?_))))
  exact wpAny_release ⟨σ, H3, I3, q3⟩
/-- target = value -/
def tAsg (te : TE) (g : TG) : TS := fun D σ H => te σ H fun x H1 => g x σ H1 D.nx
theorem ps_asg {tg e : Expr} {te : TE} {g : TG} (he : PE X e te) (hg : PG X tg g) (hs : swapsWithSole [tg] e pos.line X.env = pure false := by rfl) (hw : swappedStores [tg] e X.env = pure none := by rfl)
    (h1 : (assignEach [tg] X.env).map (·.2) = [assign tg X.env] := by rfl) : PS X (.Assign [tg] e pos) (tAsg te g) := by
  intro pins s σ H D I h
  refine wpAny_Assign_stores (thn (he pins s σ H _ I h) fun v s1 ⟨x, H1, I1, r1, q1⟩ => ?_) hs hw
  rw [h1]
  exact thn (hg pins s1 σ H1 x v _ I1 r1 q1) fun _ s2 q => q
/-- name = value -/
theorem ps_set {i : Nat} {x : Str} {e : Expr} {te : TE} {pos' : Pos} (hN : X.N.Nodup) (hi : X.N[i]? = some x) (hx : Loc X.env.scope x) (he : PE X e te) (hs : swapsWith e (some (.Name x pos')) pos.line X.env = pure false := by rfl) (hf : X.fn x = true ∨ X.env.scope.names.lookup x = some .local := by first | exact .inl rfl | exact .inr rfl | assumption) :
    PS X (.Assign [.Name x pos'] e pos) (tAsg te (gName i)) := by
  intro pins s σ H D I h
  refine wpAny_Assign_Name (thn (he pins s σ H _ I h) fun v s1 ⟨y, H1, I1, r1, q1⟩ => ?_) hs
  exact store_ok I1 hN hi hx r1 (fun s2 I2 => ⟨_, H1, I2, q1⟩) hf
/-- a, b = x, y with plain local names: stored from the right; the pair itself is not tracked (the opening rows as in PyProof/Rows/TupAssign.lean:23) -/
def tPar (i j : Nat) (ta : TA) : TS := fun D σ H => ta σ H fun vs H1 => ∃ v w, vs = [v, w] ∧ D.nx ((σ.set i (some v)).set j (some w)) H1
theorem ps_par {i j : Nat} {x y : Str} {a b : Expr} {ta : TA} {px py pt : Pos} {kt k2 pt2} (hc : X.calm = true) (hN : X.N.Nodup) (hi : X.N[i]? = some x) (hj : X.N[j]? = some y) (hij : i ≠ j)
    (hx : X.env.scope.names.lookup x = some .local) (hy : X.env.scope.names.lookup y = some .local) (ha : PA X [a, b] ta)
    (hw : swappedStores [.Tuple [.Name x px, .Name y py] kt pt] (.Tuple [a, b] k2 pt2) X.env = pure (some [x, y]))
    (hs : swapsWithSole [.Tuple [.Name x px, .Name y py] kt pt] (.Tuple [a, b] k2 pt2) pos.line X.env = pure false := by rfl) :
    PS X (.Assign [.Tuple [.Name x px, .Name y py] kt pt] (.Tuple [a, b] k2 pt2) pos) (tPar i j ta) := by
  intro pins s σ H D I h
  rw [exec_Assign_arm]
  refine wpAny_bind (wpAny_standAt ?_)
  rw [hs]
  refine wpAny_bind (wpAny_pure ?_)
  rw [if_neg (by decide)]
  refine wpAny_bind (Tuple_ (thn (ha _ pins s σ H _ I h) fun us s1 ⟨vs, H1, I1, r1, q1⟩ => ?_))
  obtain ⟨v, w, e1, q1⟩ := q1
  subst e1
  obtain ⟨u1, u2, rfl, rv, rw'⟩ : ∃ u1 u2, us = [u1, u2] ∧ RelV v u1 ∧ RelV w u2 := by
    cases r1 with
    | cons p q =>
      cases q with
      | cons p' q' =>
        cases q'
        exact ⟨_, _, rfl, p, p'⟩
  refine wpAny_newObj_type ?_ (by show 2 ≤ sizeLine; decide)
  have I2 : Inv X pins σ H1 { s1 with heap := s1.heap.push { cls := .type "tuple", data := .seq [u1, u2].toArray } } := I1.kept (t' := s1.toks) fun b o e => Heap.get?_push_of_some _ e
  rw [hw]
  refine wpAny_bind (wpAny_pure ?_)
  show wpAny (model X.prog X.w) X.A (do rule "assign.swapped-stores"; let items ← unpackItems (.ref s1.heap.objs.size) 2 none; assignInOrder [fun v => bindName X.env y v, fun v => bindName X.env x v] items.reverse; pure Flow.next) _ _ _
  refine wpAny_bind (wpAny_rule (wpAny_bind (unpackItems_tuple (items := #[u1, u2]) (I.ok.hd hc) (IsTup.new s1.heap _) fun h' hx' => ?_)))
  have I3 := I2.kept (h' := h') (t' := s1.toks) fun b o e => hx' b o (Nat.ne_of_lt (Heap.lt_size e)) e
  show wpAny _ _ (assignInOrder [fun v => bindName X.env y v, fun v => bindName X.env x v] [u2, u1] >>= fun _ => pure Flow.next) _ _ _
  refine wpAny_bind (assignInOrder_cons (wpAny_bindName (store_ok I3 hN hj (.inl hy) rw' (fun s2 I4 => ?_) (.inr hy))))
  refine assignInOrder_cons (wpAny_bindName (store_ok I4 hN hi (.inl hx) rv (fun s3 I5 => assignInOrder_nil (wpAny_pure ?_)) (.inr hx)))
  rw [List.set_comm _ _ (Ne.symm hij)] at I5
  exact ⟨_, H1, I5, q1⟩
end

/-! ### while -/
section
variable {X : Cx} {pos : Pos}
/-- the invariant W with its measure -/
def tWhile (c : TT) (tb : TS) : TS := fun D σ H => ∃ W : Nat → St → Hp → Prop, (∃ m, W m σ H) ∧ ∀ m σ H, W m σ H →
  c σ H fun b H1 => if b = true then ∃ N : St → Hp → Prop, (∀ σ' H', N σ' H' → ∃ m', m' < m ∧ W m' σ' H') ∧ tb { D with nx := N, ct := N, bk := D.nx } σ H1 else D.nx σ H1
theorem ps_while {c : Expr} {body : List Stmt} {tc : TT} {tb : TS} (hp : PassesOwn (model X.prog X.w) X.A X.env X.xe) (hc : PT X c tc) (hb : PSs X body tb) : PS X (.While c body [] pos) (tWhile tc tb) := by
  intro pins s σ H D I h
  obtain ⟨W, ⟨m0, w0⟩, turn⟩ := h
  refine wpAny_While (codeAny_whileLoop (fun n s' => ∃ σ' H', Inv X pins σ' H' s' ∧ W n σ' H') ?_ m0 ⟨σ, H, I, w0⟩)
  rintro n s1 ⟨σ1, H1, I1, w1⟩
  refine wpAny_passesOwn hp (thn (hc pins s1 σ1 H1 _ I1 (turn n σ1 H1 w1)) fun b s2 ⟨H2, I2, q2⟩ => ?_)
  cases b with
  | true =>
    obtain ⟨N, hN, q2⟩ := q2
    rw [if_pos rfl]
    refine wpAny_passesOwn hp (thn (hb pins s2 σ1 H2 _ I2 q2) fun f s3 q3 => ?_)
    cases f with
    | next =>
      obtain ⟨σ3, H3, I3, n3⟩ := q3
      obtain ⟨m', hm, w3⟩ := hN σ3 H3 n3
      exact ⟨m', hm, σ3, H3, I3, w3⟩
    | cont =>
      obtain ⟨σ3, H3, I3, n3⟩ := q3
      obtain ⟨m', hm, w3⟩ := hN σ3 H3 n3
      exact ⟨m', hm, σ3, H3, I3, w3⟩
    | brk => exact q3
    | ret v => exact q3
  | false =>
    rw [if_neg Bool.false_ne_true]
    exact wpAny_execs_nil ⟨σ1, H2, I2, q2⟩
end

/-! ### what a loop or a comprehension walks -/
/-- at turn i: it yields x (the heap may grow), or it stops -/
structure It where
  go : Nat → Hp → Prop
  yld : Nat → Hp → V → Hp → Prop
  stop : Nat → Hp → Prop
/-- the iterator's own objects may turn: they are not the frame's, not pinned, younger than the entry (or a comprehension's own) -/
def FpOk (X : Cx) (pins : List (Addr × Obj)) (H : Hp) (b : Addr) : Prop :=
  H b = none ∧ b ≠ X.env.locals ∧ b ∉ X.fs ∧ (b ∈ X.ex ∨ X.s₀.heap.objs.size ≤ b) ∧ (∀ x c, X.env.cells.lookup x = some c → c ≠ b) ∧ ∀ p ∈ X.pn ++ pins, p.1 ≠ b
theorem Inv.fpOk {X : Cx} {pins : List (Addr × Obj)} {σ : St} {H H' : Hp} {s : Shared} {b : Addr} (I : Inv X pins σ H s) (hb : s.heap.objs.size ≤ b) (hn : H' b = none) : FpOk X pins H' b := by
  refine ⟨hn, Nat.ne_of_gt (Nat.lt_of_lt_of_le I.lt hb), I.nofs hb, .inr (Nat.le_trans I.sz hb), fun x c e z => ?_, fun p hp z => ?_⟩
  · obtain ⟨v, q⟩ := I.cell x c e
    exact absurd (Nat.lt_of_lt_of_le q.lt (by rw [z]; exact hb)) (Nat.lt_irrefl _)
  · exact absurd (Nat.lt_of_lt_of_le (Heap.lt_size (I.pin p hp).1) (by rw [z]; exact hb)) (Nat.lt_irrefl _)
structure Turn (P : Program) (w : World) (K : PySem.W.Frag) (tg : Expr) (J : It) (fp : List Addr) (it : Addr) (tn : Nat → Heap → Prop) : Prop where
  mem : it ∈ fp
  obj : ∀ i h, tn i h → ∀ b ∈ fp, ∃ o, h.get? b = some o ∧ ∀ v, o.data ≠ .cell v
  keep : ∀ i h h', tn i h → (∀ b ∈ fp, ∀ o, h.get? b = some o → h'.get? b = some o) → tn i h'
  item : ∀ (X : Cx), X.prog = P → X.w = w → X.K = K → X.calm = true → ∀ (i : Nat) (pins : List (Addr × Obj)) (s : Shared) (σ : St) (H : Hp) (E : Value → Shared → Prop), Inv X pins σ H s → (∀ b ∈ fp, FpOk X pins H b) → tn i s.heap → J.go i H →
    wpAny (model P w) X.A (pyNext (.ref it)) (fun r s1 => ∃ u, r = some u ∧
      wpAny (model P w) X.A (letOwnedTupleGo tg (.ref it) u) (fun _ s2 => ∃ x H', Inv X pins σ H' s2 ∧ RelV x u ∧ J.yld i H x H' ∧ tn (i + 1) s2.heap ∧ ∀ b ∈ fp, H' b = none) E s1) E s
  done : ∀ (X : Cx), X.prog = P → X.w = w → X.K = K → X.calm = true → ∀ (i : Nat) (pins : List (Addr × Obj)) (s : Shared) (σ : St) (H : Hp) (E : Value → Shared → Prop), Inv X pins σ H s → (∀ b ∈ fp, FpOk X pins H b) → tn i s.heap → J.stop i H →
    wpAny (model P w) X.A (pyNext (.ref it)) (fun r s1 => r = none ∧ Inv X pins σ H s1) E s
  self : ∀ (A : Around) (i : Nat) (s : Shared) (Q : Value → Shared → Prop) (E : Value → Shared → Prop), tn i s.heap → Q (.ref it) s → wpAny (model P w) A (pyIter (.ref it)) Q E s
abbrev TI := St → Hp → (It → Hp → Prop) → Prop
/-- an iterator has come -/
def PIE (X : Cx) (pins : List (Addr × Obj)) (σ : St) (tg : Expr) (R : It → Hp → Prop) (itv : Value) (s2 : Shared) : Prop :=
  ∃ (it : Addr) (fp : List Addr) (tn : Nat → Heap → Prop) (J : It) (H' : Hp), itv = .ref it ∧ Inv X pins σ H' s2 ∧ Turn X.prog X.w X.K tg J fp it tn ∧ tn 0 s2.heap ∧ (∀ b ∈ fp, FpOk X pins H' b) ∧ R J H'
def PI (X : Cx) (tg iter : Expr) (wi : TI) : Prop :=
  ∀ (pins : List (Addr × Obj)) (s : Shared) (σ : St) (H : Hp) (R : It → Hp → Prop), Inv X pins σ H s → wi σ H R →
    wpAny (model X.prog X.w) X.A (eval iter X.env) (fun v s1 => wpAny (model X.prog X.w) X.A (pyIter v) (PIE X pins σ tg R) X.xe s1) X.xe s

/-- the step ahead of the store is nothing for an iterator that keeps no tuple -/
theorem go_of {M : Model} {A : Around} {E : Value → Shared → Prop} {s : Shared} {tg : Expr} {it : Addr} {u : Value} {o : Obj} {n : String} {vs : Array Value} {Q : Unit → Shared → Prop} (ho : s.heap.get? it = some o) (hc : o.cls = .type n) (hd : o.data = .fields vs)
    (hn : ["enumerate", "zip", "dict_itemiterator", "dict_reverseitemiterator", "odict_iterator", "itertools.zip_longest", "itertools.pairwise"].contains n = false) (hQ : Q () s) : wpAny M A (letOwnedTupleGo tg (.ref it) u) Q E s := by
  unfold letOwnedTupleGo
  cases tg <;> first
    | exact wpAny_pure hQ
    | (cases u <;> first
        | exact wpAny_pure hQ
        | (refine wpAny_bind (wpAny_load ho ?_)
           rw [hc, hd]
           show wpAny M A (if (["enumerate", "zip", "dict_itemiterator", "dict_reverseitemiterator", "odict_iterator", "itertools.zip_longest", "itertools.pairwise"].contains n && vs[0]? == some (rawInt _)) = true then _ else _) Q E s
           rw [if_neg (by intro h; rw [hn, Bool.false_and] at h; cases h)]
           exact wpAny_pure hQ))

/-- the list at a, as it stands at each turn (a loop may append to it) -/
def Itl (K : PySem.W.Frag) (a : Addr) : It :=
  ⟨fun i H => ∃ xs x, SqL K H a xs ∧ xs[i]? = some x, fun i H x H' => H' = H ∧ ∀ xs, SqL K H a xs → xs[i]? = some x, fun i H => ∃ xs, SqL K H a xs ∧ xs.length ≤ i⟩
/-- lo, lo + 1, .. (n of them) -/
def Itr (lo : Int) (n : Nat) : It := ⟨fun i _ => i < n, fun i H x H' => H' = H ∧ x = .int (lo + i), fun i _ => n ≤ i⟩
theorem turn_list {P : Program} {w : World} {K : PySem.W.Frag} {tg : Expr} (a it : Addr) : Turn P w K tg (Itl K a) [it] it (fun i h => h.IsListIter it a i) where
  mem := by simp
  obj := fun i h st b hb => by
    have e : b = it := by simpa using hb
    subst e
    obtain ⟨o, e, c, d⟩ := st
    exact ⟨o, e, fun v z => by rw [d] at z; cases z⟩
  keep := fun i h h' st k => st.at fun o e => k it (by simp) o e
  item := by
    intro X hP hw hK hc i pins s σ H E I hf st hg
    subst hP hw hK
    obtain ⟨xs, x, hq, hx⟩ := hg
    obtain ⟨its, rv, p, hz⟩ := I.list hq
    obtain ⟨u, hu, ru⟩ := rv.get hx
    obtain ⟨f0, f1, f2, f3, f4, f5⟩ := hf it (by simp)
    refine wpAny_pyNext_list_item st p.isList (x := u) (by simpa using hu) fun h' st' sb => ?_
    have I1 : Inv X pins σ H { s with heap := h' } := I.turned (t' := s.toks) (fun b o hb e => (sb.2 b hb).trans e) f0 f1 f3 f4 f5
    obtain ⟨o, e, c, d⟩ := id st'
    exact ⟨u, rfl, go_of (s := { s with heap := h' }) e c d (by decide) ⟨x, H, I1, ru, ⟨rfl, fun ys hy => by rw [I.list_inj hy hq]; exact hx⟩, st', fun b hb => (hf b hb).1⟩⟩
  done := by
    intro X hP hw hK hc i pins s σ H E I hf st hg
    subst hP hw hK
    obtain ⟨xs, hq, hx⟩ := hg
    obtain ⟨its, rv, p, hz⟩ := I.list hq
    obtain ⟨f0, f1, f2, f3, f4, f5⟩ := hf it (by simp)
    have hl := rv.length
    exact wpAny_pyNext_list_end (I.ok.hd hc) st p.isList (by simp; omega) fun h' eb => ⟨rfl, I.turned (t' := s.toks) (fun b o hb e => eb b o hb e) f0 f1 f3 f4 f5⟩
  self := fun _ _ _ _ _ st h => wpAny_pyIter_listiter st h
theorem turn_range {P : Program} {w : World} {K : PySem.W.Frag} {tg : Expr} (it : Addr) (lo : Int) (n : Nat) : Turn P w K tg (Itr lo n) [it] it (fun i h => IsRangeIter h it (lo + (i : Nat) * 1) ((n : Int) - (i : Nat)) 1) where
  mem := by simp
  obj := fun i h st b hb => by
    have e : b = it := by simpa using hb
    subst e
    exact ⟨_, st, fun v z => by
      have z' : Data.fields _ = Data.cell v := z
      cases z'⟩
  keep := fun i h h' st k => k it (by simp) _ st
  item := by
    intro X hP hw hK hc i pins s σ H E I hf st hg
    subst hP hw hK
    obtain ⟨f0, f1, f2, f3, f4, f5⟩ := hf it (by simp)
    have W := Walks.range (prog := X.prog) (w := X.w) (I.ok.hd hc) it lo 1 n
    refine W.item i s _ _ hg st fun v h' tk hv st' kk => ?_
    obtain ⟨t, rfl⟩ := hv
    have I1 : Inv X pins σ H { s with heap := h', toks := tk } := I.turned (fun b o hb e => kk b o (by simpa using hb) e) f0 f1 f3 f4 f5
    refine ⟨_, rfl, go_of (s := { s with heap := h', toks := tk }) (n := "range_iterator") st' rfl rfl (by decide) ⟨.int (lo + i), H, I1, ⟨t, ?_⟩, ⟨rfl, rfl⟩, st', fun b hb => (hf b hb).1⟩⟩
    rw [Int.mul_one]
  done := by
    intro X hP hw hK hc i pins s σ H E I hf st hg
    subst hP hw hK
    obtain ⟨f0, f1, f2, f3, f4, f5⟩ := hf it (by simp)
    exact wpAny_pyNext_range_end (I.ok.hd hc) st (by have : n ≤ i := hg; omega) fun h' eb => ⟨rfl, I.turned (t' := s.toks) (fun b o hb e => eb b o hb e) f0 f1 f3 f4 f5⟩
  self := fun _ _ _ _ _ st h => wpAny_pyIter_rangeiter st h
end L2

namespace L2
open PySem PySem.Spec PyProof.Rows
section
variable {X : Cx} {tg : Expr}
def iList (K : PySem.W.Frag) (tl : TE) : TI := fun σ H R => tl σ H fun x H1 => ∃ a, x = .ref a ∧ (∃ xs, SqL K H1 a xs) ∧ R (Itl K a) H1
theorem pi_list {l : Expr} {tl : TE} (hl : PE X l tl) : PI X tg l (iList X.K tl) := by
  intro pins s σ H R I h
  refine thn (hl pins s σ H _ I h) fun v s1 ⟨x, H1, I1, r1, q1⟩ => ?_
  obtain ⟨a, e, ⟨xs, hq⟩, q⟩ := q1
  subst e
  cases r1
  obtain ⟨its, rv, p, hz⟩ := I1.list hq
  refine wpAny_pyIter_list p.isList ?_
  refine ⟨s1.heap.objs.size, [s1.heap.objs.size], _, _, H1, rfl, I1.kept (t' := s1.toks) fun b o e => Heap.get?_push_of_some _ e, turn_list a _, ⟨_, Heap.get?_push_size _ rfl, rfl, rfl⟩, fun b hb => ?_, q⟩
  have e : b = s1.heap.objs.size := by simpa using hb
  subst e
  exact I1.fpOk (Nat.le_refl _) (I1.hok.fresh (Nat.le_refl _))
/-- a range object just made, walked -/
theorem range_it {pins : List (Addr × Obj)} {σ : St} {H : Hp} {s : Shared} {R : It → Hp → Prop} {E : Value → Shared → Prop} {lo hi : Int} {t u v : Tok} {tk : Nat} (I : Inv X pins σ H s) (h1 : -(2 ^ 62) ≤ lo) (h2 : lo < 2 ^ 62) (h3 : -(2 ^ 62) ≤ hi) (h4 : hi < 2 ^ 62)
    (q : R (Itr lo (hi - lo).toNat) H) : wpAny (model X.prog X.w) X.A (pyIter (.ref s.heap.objs.size)) (PIE X pins σ tg R) E { s with heap := s.heap.push { cls := .type "range", data := .fields #[.int lo t, .int hi u, .int 1 v] }, toks := tk } := by
  refine wpAny_pyIter_range (IsRange.new ..) (small_one h1 h2 h3 h4) ?_
  have I1 : Inv X pins σ H { s with heap := s.heap.push { cls := .type "range", data := .fields #[.int lo t, .int hi u, .int 1 v] }, toks := tk } := I.kept fun b o e => Heap.get?_push_of_some _ e
  refine ⟨(s.heap.push { cls := .type "range", data := .fields #[.int lo t, .int hi u, .int 1 v] }).objs.size, [(s.heap.push { cls := .type "range", data := .fields #[.int lo t, .int hi u, .int 1 v] }).objs.size], _, _, H, rfl,
    I1.kept (t' := tk) fun b o e => Heap.get?_push_of_some _ e, turn_range _ lo (hi - lo).toNat, ?_, fun b hb => ?_, q⟩
  · have e1 : lo + ((0 : Nat) : Int) * 1 = lo := by simp
    have e2 : (((hi - lo).toNat : Nat) : Int) - ((0 : Nat) : Int) = Builtin.Range.rangeSize lo hi 1 := by rw [rangeSize_one]; split <;> omega
    show IsRangeIter _ _ (lo + ((0 : Nat) : Int) * 1) ((((hi - lo).toNat : Nat) : Int) - ((0 : Nat) : Int)) 1
    rw [e1, e2]
    exact Heap.get?_push_size _ rfl
  · have e : b = (s.heap.push { cls := .type "range", data := .fields #[.int lo t, .int hi u, .int 1 v] }).objs.size := by simpa using hb
    subst e
    exact I1.fpOk (Nat.le_refl _) (I1.hok.fresh (Nat.le_refl _))
def iRng1 (ta : TA) : TI := fun σ H R => ta σ H fun vs H1 => ∃ j : Int, vs = [.int j] ∧ -(2 ^ 62) ≤ j ∧ j < 2 ^ 62 ∧ R (Itr 0 j.toNat) H1
def iRng2 (ta : TA) : TI := fun σ H R => ta σ H fun vs H1 => ∃ i j : Int, vs = [.int i, .int j] ∧ (-(2 ^ 62) ≤ i ∧ i < 2 ^ 62 ∧ -(2 ^ 62) ≤ j ∧ j < 2 ^ 62) ∧ R (Itr i (j - i).toNat) H1
theorem pi_range1 {a : Expr} {ta : TA} {p pos : Pos} (hg : Gl X "range") (hm : X.mg "range" = none) (ha : PA X [a] ta) (hs : starEach [a] X.env = [(false, eval a X.env)] := by rfl) : PI X tg (.Call (.Name "range" p) [a] [] pos) (iRng1 ta) := by
  intro pins s σ H R I h
  refine Call_ (ld_blt I hg hm boot_range (PyProof.Rows.callWith_type1 (thn (ha pos pins s σ H _ I h) fun us s1 ⟨vs, H1, I1, r1, q1⟩ => ?_) hs rfl))
  obtain ⟨j, e, q1, q2, q⟩ := q1
  subst e
  cases r1 with
  | cons r rr =>
    cases rr
    obtain ⟨t, rfl⟩ := r
    exact call_range_1 (range_it I1 (by omega) (by omega) q1 q2 (by simpa using q))
theorem pi_range2 {a b : Expr} {ta : TA} {p pos : Pos} (hg : Gl X "range") (hm : X.mg "range" = none) (ha : PA X [a, b] ta) (hs : starEach [a, b] X.env = [(false, eval a X.env), (false, eval b X.env)] := by rfl) (hs2 : starEach [b] X.env = [(false, eval b X.env)] := by rfl) :
    PI X tg (.Call (.Name "range" p) [a, b] [] pos) (iRng2 ta) := by
  intro pins s σ H R I h
  refine Call_ (ld_blt I hg hm boot_range (PyProof.Rows.callWith_type1 (thn (ha pos pins s σ H _ I h) fun us s1 ⟨vs, H1, I1, r1, q1⟩ => ?_) (by rw [hs, hs2]) (by rw [hs2]; rfl)))
  obtain ⟨i, j, e, ⟨q1, q2, q3, q4⟩, q⟩ := q1
  subst e
  cases r1 with
  | cons r rr =>
    cases rr with
    | cons r' rr =>
      cases rr
      obtain ⟨t, rfl⟩ := r
      obtain ⟨t', rfl⟩ := r'
      exact call_range_2 (range_it I1 q1 q2 q3 q4 q)

/-! ### for -/
/-- W: the invariant by the turn and a measure; N: what the body is to reach -/
def tFor (wi : TI) (g : TG) (tb : TS) : TS := fun D σ H => wi σ H fun J H1 => ∃ W : Nat → Nat → St → Hp → Prop, (∃ m, W 0 m σ H1) ∧ ∀ i m σ H, W i m σ H →
  (J.stop i H ∧ D.nx σ H) ∨ (J.go i H ∧ ∃ N : St → Hp → Prop, (∀ σ' H', N σ' H' → ∃ m', m' < m ∧ W (i + 1) m' σ' H') ∧ ∀ x H', J.yld i H x H' → g x σ H' fun σ2 H2 => tb { D with nx := N, ct := N, bk := D.nx } σ2 H2)
/-- the records at fp as they stand -/
def pinsAt (fp : List Addr) (h : Heap) : List (Addr × Obj) := fp.filterMap fun b => (h.get? b).map fun o => (b, o)
theorem mem_pinsAt {fp : List Addr} {h : Heap} {b : Addr} {o : Obj} (hb : b ∈ fp) (e : h.get? b = some o) : (b, o) ∈ pinsAt fp h := List.mem_filterMap.mpr ⟨b, hb, by rw [e]; rfl⟩
theorem of_pinsAt {fp : List Addr} {h : Heap} {p : Addr × Obj} (hp : p ∈ pinsAt fp h) : p.1 ∈ fp ∧ h.get? p.1 = some p.2 := by
  obtain ⟨b, hb, e⟩ := List.mem_filterMap.mp hp
  cases q : h.get? b with
  | none => rw [q] at e; cases e
  | some o =>
    rw [q] at e
    have e' : (b, o) = p := Option.some.inj e
    subst e'
    exact ⟨hb, q⟩
theorem Inv.pinned {pins : List (Addr × Obj)} {σ : St} {H : Hp} {s : Shared} {fp : List Addr} (I : Inv X pins σ H s) (hf : ∀ b ∈ fp, FpOk X pins H b) (ho : ∀ b ∈ fp, ∃ o, s.heap.get? b = some o ∧ ∀ v, o.data ≠ .cell v) : Inv X (pins ++ pinsAt fp s.heap) σ H s :=
  I.pins_of fun p hp => (List.mem_append.mp hp).elim (fun z => I.pin p (List.mem_append_right _ z)) fun z => by
    obtain ⟨hb, e⟩ := of_pinsAt z
    obtain ⟨f0, f1, f2, _⟩ := hf p.1 hb
    obtain ⟨o, e', d⟩ := ho p.1 hb
    rw [e] at e'; cases e'
    exact ⟨e, f0, f1, f2, d⟩
theorem Inv.unpinned {pins pl : List (Addr × Obj)} {σ : St} {H : Hp} {s : Shared} (I : Inv X (pins ++ pl) σ H s) : Inv X pins σ H s := I.pins_of fun p hp => I.pin p (List.mem_append_right _ (List.mem_append_left _ hp))
theorem ps_for {iter : Expr} {body : List Stmt} {wi : TI} {g : TG} {tb : TS} {pos : Pos} (hp : PassesOwn (model X.prog X.w) X.A X.env X.xe) (hc : X.calm = true) (hi : PI X tg iter wi) (hg : PG X tg g) (hb : PSs X body tb)
    (hs : ∀ x, foldedSetIterable iter X.env x = pure x := by intro _; rfl) : PS X (.For tg iter body [] pos) (tFor wi g tb) := by
  intro pins s σ H D I h
  refine wpAny_For (thn (hi pins s σ H _ I h) fun v s1 h1 => thn h1 fun itv s2 h2 => ?_) hs
  obtain ⟨it, fp, tn, J, H2, e, I2, T, st2, f2, W, ⟨m0, w0⟩, turn⟩ := h2
  subst e
  -- what stays true of the iterator's objects through the loop
  have stat : ∀ {H' : Hp}, (∀ b ∈ fp, H' b = none) → ∀ b ∈ fp, FpOk X pins H' b := fun hn b hb => ⟨hn b hb, (f2 b hb).2⟩
  refine codeAny_forLoop_any (fun n s' => ∃ i σ' H', Inv X pins σ' H' s' ∧ tn i s'.heap ∧ (∀ b ∈ fp, H' b = none) ∧ W i n σ' H') ?_ m0 ⟨0, σ, H2, I2, st2, fun b hb => (f2 b hb).1, w0⟩
  rintro n s3 ⟨i, σ3, H3, I3, st3, fr3, w3⟩
  rcases turn i n σ3 H3 w3 with ⟨stop, qn⟩ | ⟨go, N, hN, step⟩
  · refine wpAny_passesOwn hp (thn (T.done X rfl rfl rfl hc i pins s3 σ3 H3 X.xe I3 (stat fr3) st3 stop) fun r s4 ⟨hr, I4⟩ => ?_)
    subst hr
    exact wpAny_execs_nil ⟨σ3, H3, I4, qn⟩
  · refine wpAny_passesOwn hp (thn (T.item X rfl rfl rfl hc i pins s3 σ3 H3 X.xe I3 (stat fr3) st3 go) fun r s4 ⟨u, hr, h4⟩ => ?_)
    subst hr
    refine wpAny_passesOwn hp (thn h4 fun _ s5 ⟨x, H5, I5, r5, y5, st5, fr5⟩ => ?_)
    have I5' := I5.pinned (stat fr5) (T.obj _ _ st5)
    refine wpAny_passesOwn hp (thn (hg _ s5 σ3 H5 x u _ I5' r5 (step x H5 y5)) fun _ s6 ⟨σ6, H6, I6, q6⟩ => ?_)
    refine wpAny_passesOwn hp (thn (hb _ s6 σ6 H6 _ I6 q6) fun f s7 q7 => ?_)
    have again : ∀ {σ7 : St} {H7 : Hp}, Inv X (pins ++ pinsAt fp s5.heap) σ7 H7 s7 → N σ7 H7 → ∃ m, m < n ∧ ∃ i σ' H', Inv X pins σ' H' s7 ∧ tn i s7.heap ∧ (∀ b ∈ fp, H' b = none) ∧ W i m σ' H' := fun {σ7 H7} I7 n7 => by
      obtain ⟨m', hm, w7⟩ := hN σ7 H7 n7
      refine ⟨m', hm, i + 1, σ7, H7, I7.unpinned, T.keep _ _ _ st5 fun b hb o e => (I7.pin (b, o) (List.mem_append_right _ (List.mem_append_right _ (mem_pinsAt hb e)))).1, fun b hb => ?_, w7⟩
      obtain ⟨o, e, d⟩ := T.obj _ _ st5 b hb
      exact (I7.pin (b, o) (List.mem_append_right _ (List.mem_append_right _ (mem_pinsAt hb e)))).2.1
    cases f with
    | next => obtain ⟨σ7, H7, I7, n7⟩ := q7; exact again I7 n7
    | cont => obtain ⟨σ7, H7, I7, n7⟩ := q7; exact again I7 n7
    | brk => obtain ⟨σ7, H7, I7, q7⟩ := q7; exact ⟨σ7, H7, I7.unpinned, q7⟩
    | ret v => obtain ⟨x7, σ7, H7, I7, r7, q7⟩ := q7; exact ⟨x7, σ7, H7, I7.unpinned, r7, q7⟩
end

/-! ### the forms one uses -/
end L2

namespace L2
open PySem PySem.Spec PyProof.Rows

abbrev R2 := V → V → Hp → VK → Prop
/-- a two-place operation on values: f is binaryOp op, inplaceOp op or compareOp op -/
def OpR (X : Cx) (f : Value → Value → Sem Value) (r : R2) : Prop :=
  ∀ (pins : List (Addr × Obj)) (s : Shared) (σ : St) (H : Hp) (x y : V) (v u : Value) (Q : VK), Inv X pins σ H s → RelV x v → RelV y u → r x y H Q →
    wpAny (model X.prog X.w) X.A (f v u) (EP X pins σ Q) X.xe s
/-- a one-place operation -/
def UnR (X : Cx) (f : Value → Sem Value) (r : V → Hp → VK → Prop) : Prop :=
  ∀ (pins : List (Addr × Obj)) (s : Shared) (σ : St) (H : Hp) (x : V) (v : Value) (Q : VK), Inv X pins σ H s → RelV x v → r x H Q →
    wpAny (model X.prog X.w) X.A (f v) (EP X pins σ Q) X.xe s
/-- a call of a value that is known (a builtin, a type) with values -/
def CallR (X : Cx) (f : Value) (r : List V → Hp → VK → Prop) : Prop :=
  ∀ (pins : List (Addr × Obj)) (s : Shared) (σ : St) (H : Hp) (xs : List V) (us : List Value) (Q : VK), Inv X pins σ H s → Vals xs us → r xs H Q →
    wpAny (model X.prog X.w) X.A (call f us) (EP X pins σ Q) X.xe s
def tOp (r : R2) (ta tb : TE) : TE := fun σ H Q => ta σ H fun x H1 => tb σ H1 fun y H2 => r x y H2 Q
def tUn (r : V → Hp → VK → Prop) (ta : TE) : TE := fun σ H Q => ta σ H fun x H1 => r x H1 Q
/-- ints in, under C, and a value out -/
def rI (C : Int → Int → Prop) (g : Int → Int → V) : R2 := fun x y H Q => ∃ i j, x = .int i ∧ y = .int j ∧ C i j ∧ Q (g i j) H
def rI0 (g : Int → Int → V) : R2 := fun x y H Q => ∃ i j, x = .int i ∧ y = .int j ∧ Q (g i j) H
def rU (g : Int → V) : V → Hp → VK → Prop := fun x H Q => ∃ i, x = .int i ∧ Q (g i) H

section
variable {X : Cx} {a b c : Expr} {ta tb tc : TE} {pos : Pos}

theorem binT (ha : PE X a ta) (hb : PE X b tb) {pins : List (Addr × Obj)} {s : Shared} {σ : St} {H : Hp} {R : V → V → Hp → Prop} (I : Inv X pins σ H s)
    (h : ta σ H fun x H1 => tb σ H1 fun y H2 => R x y H2) {Q : Value → Shared → Prop} {f : Value → Value → Sem Value}
    (hf : ∀ v u s2 x y H2, Inv X pins σ H2 s2 → RelV x v → RelV y u → R x y H2 → wpAny (model X.prog X.w) X.A (f v u) Q X.xe s2) :
    wpAny (model X.prog X.w) X.A (eval a X.env) (fun v s₁ => wpAny (model X.prog X.w) X.A (eval b X.env) (fun u s₂ => wpAny (model X.prog X.w) X.A (f v u) Q X.xe s₂) X.xe s₁) X.xe s := by
  refine thn (ha pins s σ H _ I h) fun v s1 ⟨x, H1, I1, r1, q1⟩ => ?_
  refine thn (hb pins s1 σ H1 _ I1 q1) fun u s2 ⟨y, H2, I2, r2, q2⟩ => ?_
  exact hf v u s2 x y H2 I2 r1 r2 q2

theorem pe_op {op : Operator} {r : R2} (ho : OpR X (binaryOp op) r) (ha : PE X a ta) (hb : PE X b tb) : PE X (.BinOp a op b pos) (tOp r ta tb) := by
  intro pins s σ H Q I h
  exact wpAny_BinOp (binT ha hb I h fun v u s2 x y H2 I2 rx ry q => ho pins s2 σ H2 x y v u Q I2 rx ry q)
theorem pe_un {op : UnaryOp} {r : V → Hp → VK → Prop} (ho : UnR X (unaryOp op) r) (ha : PE X a ta) : PE X (.UnaryOp op a pos) (tUn r ta) := by
  intro pins s σ H Q I h
  exact UnaryOp_ (thn (ha pins s σ H _ I h) fun v s1 ⟨x, H1, I1, r1, q1⟩ => ho pins s1 σ H1 x v Q I1 r1 q1)
/-! ### ints -/
theorem opI {f : Value → Value → Sem Value} {C : Int → Int → Prop} {g : Int → Int → Int}
    (rule : ∀ (i j : Int) (t u : Tok) (s : Shared) (Q : Value → Shared → Prop) (E : Value → Shared → Prop), C i j → Q (.int (g i j) s.toks) { s with toks := s.toks + 1 } → wpAny (model X.prog X.w) X.A (f (.int i t) (.int j u)) Q E s) :
    OpR X f (rI C fun i j => .int (g i j)) := by
  intro pins s σ H x y v u Q I rx ry h
  obtain ⟨i, j, rfl, rfl, hc, q⟩ := h
  obtain ⟨t, rfl⟩ := rx
  obtain ⟨t', rfl⟩ := ry
  exact rule i j t t' s _ _ hc ⟨.int (g i j), H, I.tok _, ⟨_, rfl⟩, q⟩
theorem opI0 {f : Value → Value → Sem Value} {g : Int → Int → Int}
    (rule : ∀ (i j : Int) (t u : Tok) (s : Shared) (Q : Value → Shared → Prop) (E : Value → Shared → Prop), Q (.int (g i j) s.toks) { s with toks := s.toks + 1 } → wpAny (model X.prog X.w) X.A (f (.int i t) (.int j u)) Q E s) :
    OpR X f (rI0 fun i j => .int (g i j)) := by
  intro pins s σ H x y v u Q I rx ry h
  obtain ⟨i, j, rfl, rfl, q⟩ := h
  obtain ⟨t, rfl⟩ := rx
  obtain ⟨t', rfl⟩ := ry
  exact rule i j t t' s _ _ ⟨.int (g i j), H, I.tok _, ⟨_, rfl⟩, q⟩
theorem opB0 {f : Value → Value → Sem Value} {g : Int → Int → Bool}
    (rule : ∀ (i j : Int) (t u : Tok) (s : Shared) (Q : Value → Shared → Prop) (E : Value → Shared → Prop), Q (.bool (g i j)) s → wpAny (model X.prog X.w) X.A (f (.int i t) (.int j u)) Q E s) :
    OpR X f (rI0 fun i j => .bl (g i j)) := by
  intro pins s σ H x y v u Q I rx ry h
  obtain ⟨i, j, rfl, rfl, q⟩ := h
  obtain ⟨t, rfl⟩ := rx
  obtain ⟨t', rfl⟩ := ry
  exact rule i j t t' s _ _ ⟨.bl (g i j), H, I, rfl, q⟩

theorem op_add : OpR X (binaryOp .Add) (rI0 fun i j => .int (i + j)) := opI0 fun _ _ _ _ _ _ _ q => add_int q
theorem op_sub : OpR X (binaryOp .Sub) (rI0 fun i j => .int (i - j)) := opI0 fun _ _ _ _ _ _ _ q => sub_int q
theorem op_modN : OpR X (binaryOp .Mod) (rI (fun _ j => j ≠ 0) fun i j => .int (i.fmod j)) := opI fun _ _ _ _ _ _ _ hc q => mod_int' hc q
theorem unI {f : Value → Sem Value} {g : Int → Int}
    (rule : ∀ (i : Int) (t : Tok) (s : Shared) (Q : Value → Shared → Prop) (E : Value → Shared → Prop), Q (.int (g i) s.toks) { s with toks := s.toks + 1 } → wpAny (model X.prog X.w) X.A (f (.int i t)) Q E s) :
    UnR X f (rU fun i => .int (g i)) := by
  intro pins s σ H x v Q I rx h
  obtain ⟨i, rfl, q⟩ := h
  obtain ⟨t, rfl⟩ := rx
  exact rule i t s _ _ ⟨.int (g i), H, I.tok _, ⟨_, rfl⟩, q⟩
theorem un_neg : UnR X (unaryOp .USub) (rU fun i => .int (-i)) := unI fun _ _ _ _ _ q => neg_int q
/-! ### bools among ints: n += (a < b) -/
end

/-! ### comparisons -/
/-- the scalars that == tells apart as data does -/
def scal : V → V → Bool
  | .non, .non => true | .non, .int _ => true | .int _, .non => true | .non, .bl _ => true | .bl _, .non => true | .non, .str _ => true | .str _, .non => true
  | .int _, .int _ => true | .bl _, .bl _ => true | .str _, .str _ => true | .byt _, .byt _ => true
  | .int _, .str _ => true | .str _, .int _ => true | .bl _, .str _ => true | .str _, .bl _ => true
  | _, _ => false
def rEq : R2 := fun x y H Q => scal x y = true ∧ Q (.bl (decide (x = y))) H
theorem dec_int {i j : Int} : decide (V.int i = V.int j) = (i == j) := by
  rw [Bool.eq_iff_iff]
  simp
theorem dec_bl {i j : Bool} : decide (V.bl i = V.bl j) = (i == j) := by
  rw [Bool.eq_iff_iff]
  simp
theorem dec_str {i j : Str} : decide (V.str i = V.str j) = (i == j) := by
  rw [Bool.eq_iff_iff]
  simp
theorem dec_byt {i j : Array UInt8} : decide (V.byt i = V.byt j) = (i.toList == j.toList) := by
  rw [Bool.eq_iff_iff]
  cases i
  cases j
  simp

section
variable {X : Cx} {a b c : Expr} {ta tb tc : TE} {pos : Pos}
theorem fin_bl {pins : List (Addr × Obj)} {σ : St} {H : Hp} {s : Shared} {Q : VK} {k k' : Bool} (I : Inv X pins σ H s) (q : Q (.bl k) H) (e : k = k') : EP X pins σ Q (.bool k') s := by
  subst e
  exact ⟨.bl k, H, I, rfl, q⟩
theorem op_eq : OpR X (compareOp .Eq) rEq := by
  intro pins s σ H x y v u Q I rx ry h
  obtain ⟨hs, q⟩ := h
  cases x with
  | non =>
    cases rx
    cases y with
    | non => cases ry; exact PySem.EqNone.eq_none_none (fin_bl I q (by simp))
    | bl j => cases ry; exact PySem.EqNone.eq_none_bool (fin_bl I q (by simp))
    | int j => obtain ⟨t', rfl⟩ := ry; exact PySem.EqNone.eq_none_int (fin_bl I q (by simp))
    | str j => obtain ⟨t', rfl⟩ := ry; exact PySem.EqNone.eq_none_str (fin_bl I q (by simp))
    | _ => exact absurd (show false = true from hs) Bool.false_ne_true
  | bl i =>
    cases rx
    cases y with
    | non => cases ry; exact PySem.EqNone.eq_bool_none (fin_bl I q (by simp))
    | bl j => cases ry; exact eq_bool (fin_bl I q dec_bl)
    | str j => obtain ⟨t', rfl⟩ := ry; exact PySem.EqMixed.eq_bool_str (fin_bl I q (by simp))
    | _ => exact absurd (show false = true from hs) Bool.false_ne_true
  | int i =>
    obtain ⟨t, rfl⟩ := rx
    cases y with
    | non => cases ry; exact PySem.EqNone.eq_int_none (fin_bl I q (by simp))
    | int j => obtain ⟨t', rfl⟩ := ry; exact eq_int (fin_bl I q dec_int)
    | str j => obtain ⟨t', rfl⟩ := ry; exact PySem.EqMixed.eq_int_str (fin_bl I q (by simp))
    | _ => exact absurd (show false = true from hs) Bool.false_ne_true
  | str i =>
    obtain ⟨t, rfl⟩ := rx
    cases y with
    | non => cases ry; exact PySem.EqNone.eq_str_none (fin_bl I q (by simp))
    | bl j => cases ry; exact PySem.EqMixed.eq_str_bool (fin_bl I q (by simp))
    | int j => obtain ⟨t', rfl⟩ := ry; exact PySem.EqMixed.eq_str_int (fin_bl I q (by simp))
    | str j => obtain ⟨t', rfl⟩ := ry; exact eq_str (fin_bl I q dec_str)
    | _ => exact absurd (show false = true from hs) Bool.false_ne_true
  | byt i =>
    obtain ⟨t, rfl⟩ := rx
    cases y with
    | byt j => obtain ⟨t', rfl⟩ := ry; exact PySem.W.eq_bytes (fin_bl I q dec_byt)
    | _ => exact absurd (show false = true from hs) Bool.false_ne_true
  | _ => cases y <;> exact absurd (show false = true from hs) Bool.false_ne_true
theorem op_lt : OpR X (compareOp .Lt) (rI0 fun i j => .bl (decide (i < j))) := opB0 fun _ _ _ _ _ _ _ q => lt_int q
theorem op_gt : OpR X (compareOp .Gt) (rI0 fun i j => .bl (decide (j < i))) := opB0 fun _ _ _ _ _ _ _ q => gt_int q
theorem nomark (b : Expr) {op : CmpOp} (h : op ≠ .In := by decide) (h2 : op ≠ .NotIn := by decide) : behindInMarks op b = false := by
  have e1 : (op == CmpOp.In) = false := by cases op <;> first | rfl | exact absurd rfl h
  have e2 : (op == CmpOp.NotIn) = false := by cases op <;> first | rfl | exact absurd rfl h2
  cases b <;> simp [behindInMarks, e1, e2]
/-- a comparison as a value; hm: nomark b, or (for in, not in) by with_unfolding_all rfl -/
theorem pe_cmpR {op : CmpOp} {r : R2} (ho : OpR X (compareOp op) r) (ha : PE X a ta) (hb : PE X b tb) (hm : behindInMarks op b = false) : PE X (.Compare a [op] [b] pos) (tOp r ta tb) := by
  intro pins s σ H Q I h
  exact wpAny_Compare1 (binT ha hb I h fun v u s2 x y H2 I2 rx ry q => ho pins s2 σ H2 x y v u Q I2 rx ry q) hm
/-- a reading of a value as a test -/
def tTest (t : TE) : TT := fun σ H Q => t σ H fun x H' => ∃ k, x = .bl k ∧ Q k H'
theorem pt_cmpR {op : CmpOp} {r : R2} (ho : OpR X (compareOp op) r) (ha : PE X a ta) (hb : PE X b tb) (hm : behindInMarks op b = false) : PT X (.Compare a [op] [b] pos) (tTest (tOp r ta tb)) := by
  intro pins s σ H Q I h
  refine wpAny_isTrue_Compare1 (thn (ha pins s σ H _ I h) fun v s1 ⟨x, H1, I1, r1, q1⟩ => thn (hb pins s1 σ H1 _ I1 q1) fun u s2 ⟨y, H2, I2, r2, q2⟩ =>
    thn (ho pins s2 σ H2 x y v u _ I2 r1 r2 q2) fun c s3 ⟨z, H3, I3, r3, k, e, q3⟩ => ?_) hm
  subst e
  cases r3
  exact wpAny_truthy_bool ⟨H3, I3, q3⟩
/-! ### truth -/
theorem line63 : (sizeLine : Nat) < 2 ^ 63 := by rw [sizeLine_eq]; decide
/-! ### strs and bytes -/
/-! ### scalar builtins, by CallR -/
theorem vals1 {x : V} {us : List Value} (r : Vals [x] us) : ∃ u, us = [u] ∧ RelV x u := by
  cases r with
  | cons r1 r2 => cases r2; exact ⟨_, rfl, r1⟩
theorem vals2 {x y : V} {us : List Value} (r : Vals [x, y] us) : ∃ u w', us = [u, w'] ∧ RelV x u ∧ RelV y w' := by
  cases r with
  | cons r1 r2 =>
    cases r2 with
    | cons r3 r4 => cases r4; exact ⟨_, _, rfl, r1, r3⟩
theorem call_abs : CallR X (.builtin "abs") (fun xs H Q => ∃ i, xs = [.int i] ∧ Q (.int (if i < 0 then -i else i)) H) := by
  intro pins s σ H xs us Q I r h
  obtain ⟨i, rfl, q⟩ := h
  obtain ⟨u, rfl, t, rfl⟩ := vals1 r
  exact call_abs_int fun u tk => ⟨.int (if i < 0 then -i else i), H, I.tok _, ⟨_, rfl⟩, q⟩
theorem call_max2 (hc : X.calm = true) : CallR X (.builtin "max") (fun xs H Q => ∃ i j, xs = [.int i, .int j] ∧ Q (.int (if j > i then j else i)) H) := by
  intro pins s σ H xs us Q I r h
  obtain ⟨i, j, rfl, q⟩ := h
  obtain ⟨u, w', rfl, ⟨t, rfl⟩, ⟨t', rfl⟩⟩ := vals2 r
  refine max_two_ints (I.ok.hd hc) fun h' tk k => ⟨_, H, I.kept k, ?_, q⟩
  by_cases hj : j > i
  · rw [if_pos hj, if_pos hj]; exact ⟨_, rfl⟩
  · rw [if_neg hj, if_neg hj]; exact ⟨_, rfl⟩
end
end L2

namespace L2
open PySem PySem.Spec PyProof.Rows

/-! ### an instance, its attributes a map -/
section
variable {prog : Program} {w : World} {A : Around} {E : Value → Shared → Prop} {s : Shared} {K : PySem.W.Frag} {x dx C f : Addr} {mA : Str → Option Value} {name : Str} {v : Value}

end

/-! ### the attributes as a list of pairs -/
section
variable {P : Program} {w : World} {H H' : Hp} {h h' : Heap} {a C dx : Addr} {fs fs' : List (Str × V)}
end

/-! ### what of the text a class must have -/
section
variable {X : Cx} {pins : List (Addr × Obj)} {σ : St} {H : Hp} {s : Shared} {a C dx : Addr} {fs : List (Str × V)} {f : Str} {v : V} {A : Around} {E : Value → Shared → Prop}

end

/-! ### readings and rules -/
section
variable {X : Cx} {o e value : Expr} {f : Str} {pos pos' tpos : Pos} {ta tv : TE}
end

/-! ### isinstance -/
section
variable {X : Cx} {pins : List (Addr × Obj)} {σ : St} {H : Hp} {s : Shared} {A : Around} {E : Value → Shared → Prop} {Q : Value → Shared → Prop} {c : Value} {b : Bool}
end
end L2

namespace L2
open PySem PySem.Spec PyProof.Rows

/-! ### room -/
structure Room (k : Nat) (A : Around) : Prop where
  hd : A.handled = none
  dp : A.depth + 3 * k + 5 < recursionLimit
  un : A.units + 16 * k + 200 < cLine
theorem Room.mono {j k : Nat} {A : Around} (r : Room k A) (h : j ≤ k) : Room j A := ⟨r.hd, by have := r.dp; omega, by have := r.un; omega⟩
theorem Room.deeper {k : Nat} {A : Around} (r : Room (k + 1) A) (env : Env) : Room k (A.deeper env) :=
  ⟨r.hd, by have := r.dp; show A.depth + 1 + 3 * k + 5 < _; omega, by have := r.un; show A.units + 3 + 16 * k + 200 < _; omega⟩
theorem Room.depth {k : Nat} {A : Around} (r : Room k A) : A.depth < recursionLimit := by have := r.dp; omega
theorem Room.units {k : Nat} {A : Around} (r : Room k A) : A.units + 64 < cLine := by have := r.un; omega
/-! ### argument lists and displays -/
def tNil : TA := fun _ H Q => Q [] H
def tCons (ta : TE) (tr : TA) : TA := fun σ H Q => ta σ H fun x H1 => tr σ H1 fun xs H2 => Q (x :: xs) H2
section
variable {X : Cx} {e : Expr} {es : List Expr} {te : TE} {t : TA} {pos : Pos}
theorem pa_nil : PA X [] tNil := fun _ _ _ _ H Q I h => Calls.spliced_nil ⟨[], H, I, .nil, h⟩
theorem pa_cons (ha : PE X e te) (hr : PA X es t) (hs : starEach (e :: es) X.env = (false, eval e X.env) :: starEach es X.env := by rfl) : PA X (e :: es) (tCons te t) := by
  intro pos pins s σ H Q I h
  rw [hs]
  show wpAny _ _ (spliced ((false, eval e X.env) :: backTo pos (starEach es X.env))) _ _ s
  refine Calls.spliced_cons (thn (ha pins s σ H _ I h) fun u s1 ⟨x, H1, I1, r1, q1⟩ => ?_)
  exact thn (hr pos pins s1 σ H1 _ I1 q1) fun us s2 ⟨xs, H2, I2, r2, q2⟩ => ⟨x :: xs, H2, I2, .cons r1 r2, q2⟩

/-- a tuple, a list of written items -/
def tTup (t : TA) : TE := fun σ H Q => t σ H fun xs H1 => xs.length ≤ sizeLine ∧ ∀ p, H1 p = none → Q (.ref p) (upd H1 p (.tup xs))
def tLst (t : TA) : TE := fun σ H Q => t σ H fun xs H1 => xs.length ≤ sizeLine ∧ ∀ p, H1 p = none → Q (.ref p) (upd H1 p (.lst xs))
theorem pe_tup {x1} (h : PA X es t) : PE X (.Tuple es x1 pos) (tTup t) := by
  intro pins s σ H Q I hq
  refine wpAny_Tuple_spliced (thn (h pos pins s σ H _ I hq) fun us s1 ⟨xs, H1, I1, r, z, q⟩ => ⟨by rw [← r.length]; exact z, ?_⟩)
  have hf : H1 s1.heap.objs.size = none := I1.hok.fresh (Nat.le_refl _)
  refine ⟨.ref s1.heap.objs.size, upd H1 s1.heap.objs.size (.tup xs), I1.laid (t' := s1.toks) (fun b u e => Heap.get?_push_of_some _ e) (Nat.le_refl _) ?_, rfl, q _ hf⟩
  exact ⟨z, us, r, ⟨_, Heap.get?_push_size _ rfl, rfl, _, rfl⟩⟩
theorem pe_lst (h : PA X es t) : PE X (.List es pos) (tLst t) := by
  intro pins s σ H Q I hq
  refine wpAny_List_spliced (thn (h pos pins s σ H _ I hq) fun us s1 ⟨xs, H1, I1, r, z, q⟩ => ⟨by rw [← r.length]; exact z, ?_⟩)
  have hf : H1 s1.heap.objs.size = none := I1.hok.fresh (Nat.le_refl _)
  refine ⟨.ref s1.heap.objs.size, upd H1 s1.heap.objs.size (.lst xs), I1.laid (t' := s1.toks) (fun b u e => Heap.get?_push_of_some _ e) (Nat.le_refl _) ?_, rfl, q _ hf⟩
  exact ⟨z, us, 0, r, Heap.get?_push_size _ rfl⟩
end

/-! ### what a def promises -/
/-- a def's promise: the bound arguments in the parameters' order, the heap, the wanted end, the wanted exception -/
abbrev Sp := List V → Hp → VK → XK → Prop
/-- how an exception lies behind a call (file 08 gives it): the callers' frames, abstract heap and state ahead of the call, the wish, the exception, the state -/
abbrev CXT := List Env → Hp → Shared → XK → Value → Shared → Prop

/-- the state at a call -/
structure Env0 (P : Program) (w : World) (K : PySem.W.Frag) (mg : Str → Option Value) (base : Heap) (A : Around) (outer : List Env) (s : Shared) (H : Hp) : Prop where
  frames : A.frames = some outer
  mod : Mod K mg base
  bs : ∀ b o, base.get? b = some o → s.heap.get? b = some o ∧ H b = none
  bsz : base.objs.size ≤ s.heap.objs.size
  funs : s.heap.FunFrames base outer
  frf : ∀ b ∈ frs outer, H b = none
  hok : HOk P w H s.heap
  bare : AllBare s.gens
/-- a call's end -/
def CE (outer : List Env) (P : Program) (w : World) (H : Hp) (s : Shared) (Q : VK) (u : Value) (s' : Shared) : Prop :=
  ∃ v H', s'.os = s.os ∧ AllBare s'.gens ∧ Un (frs outer) [] H H' s.heap s'.heap ∧ HOk P w H' s'.heap ∧ RelV v u ∧ Q v H'
def CR (CX : CXT) (outer : List Env) (P : Program) (w : World) (H : Hp) (s : Shared) (Q : VK) (E : XK) (r : Result) (s' : Shared) : Prop :=
  match r with
  | .ok (.ret u) => CE outer P w H s Q u s'
  | .ok _ => False
  | .error e => CX outer H s E e s'
structure FnOk (P : Program) (w : World) (K : PySem.W.Frag) (mg : Str → Option Value) (base : Heap) (CX : CXT) (k : Nat) (f : Addr) (fd : FuncData) (ps : List Str) (sp : Sp) : Prop where
  len : ∀ vs H Q E, sp vs H Q E → vs.length = ps.length
  run : ∀ (A : Around) (outer : List Env) (s : Shared) (H : Hp) (args : Args) (us : List Value) (vs : List V) (Q : VK) (E : XK), Room k A → Env0 P w K mg base A outer s H → BindsTo s fd args (ps.zip us) → Vals vs us → sp vs H Q E →
    codeAny (model P w) A (.call (.ref f) args) (CR CX outer P w H s Q E) s
section
variable {X : Cx} {pins : List (Addr × Obj)} {σ : St} {H : Hp} {s s' : Shared}
/-- from a body: what a callee wants -/
theorem Inv.env0 (I : Inv X pins σ H s) : Env0 X.prog X.w X.K X.mg X.base X.A X.stack s H :=
  ⟨I.ok.frames, I.ok.mod, I.bs, Nat.le_trans I.ok.bsz I.sz, I.stack, I.stkFree, I.hok, I.bare⟩
/-- behind a call -/
theorem Inv.after {Q : VK} {u : Value} (I : Inv X pins σ H s) (h : CE X.stack X.prog X.w H s Q u s') : EP X pins σ Q u s' := by
  obtain ⟨v, H', os, bare, un, hok, r, q⟩ := h
  obtain ⟨hh, g, d, t, os'⟩ := s'
  obtain rfl : os' = s.os := os
  exact ⟨v, H', I.call (h' := hh) (g' := g) (d' := d) (t' := t) (ch := []) un hok bare (fun b z => absurd z (by simp)), r, q⟩
end

/-! ### calls -/
/-- f(..): the written arguments, then the defaults dvs; E: what is wanted of an exception -/
def tCall (sp : Sp) (dvs : List V) (E : XK) (t : TA) : TE := fun σ H Q => t σ H fun vs H1 => sp (vs ++ dvs) H1 Q E
/-- how the parameters are bound: us the positional arguments, kw the keywords' values by name, ds the defaults that fill up -/
def Binds (K : PySem.W.Frag) (fd : FuncData) (ps : List Str) (ds : List Value) : Prop :=
  ∀ (s : Shared) (us : List Value), K.In s.heap → (us ++ ds).length = ps.length → BindsTo s fd ⟨us, []⟩ (ps.zip (us ++ ds))
/-- every parameter is given -/
theorem Binds.all {K : PySem.W.Frag} {fd : FuncData} {ps : List Str} (h : ∀ us : List Value, us.length = ps.length → bindArgs fd ⟨us, []⟩ = pure (ps.zip us)) : Binds K fd ps [] := fun s us _ hl => by
  rw [List.append_nil] at hl ⊢
  exact .of_eq (h us hl)

/-- an exception of a callee reaches what this body wants of exceptions -/
def Passes (CX : CXT) (X : Cx) (E : XK) : Prop := ∀ (pins : List (Addr × Obj)) (σ : St) (H : Hp) (s : Shared) (e : Value) (s' : Shared), Inv X pins σ H s → CX X.stack H s E e s' → X.xe e s'

section
variable {X : Cx} {CX : CXT} {k : Nat} {f C : Addr} {fd : FuncData} {ps : List Str} {sp : Sp} {dvs : List V} {ds : List Value} {E : XK} {x m : Str} {p pos apos : Pos} {e o : Expr} {es : List Expr} {ta : TE} {t : TA}

/-- the callee runs -/
theorem run_fn {pins : List (Addr × Obj)} {σ : St} {H : Hp} {s : Shared} {Q : VK} {us : List Value} {vs : List V} (F : FnOk X.prog X.w X.K X.mg X.base CX k f fd ps sp) (hr : Room k X.A) (hb : Binds X.K fd ps ds) (hd : Vals dvs ds) (hx : Passes CX X E)
    (I : Inv X pins σ H s) (r : Vals vs us) (h : sp (vs ++ dvs) H Q E) : wpAny (model X.prog X.w) X.A (call (.ref f) us) (EP X pins σ Q) X.xe s := by
  have r2 : Vals (vs ++ dvs) (us ++ ds) := r.append hd
  have hl : (us ++ ds).length = ps.length := by rw [← r2.length]; exact F.len _ _ _ _ h
  refine wpAny_call (codeAny_mono (F.run X.A X.stack s H ⟨us, []⟩ (us ++ ds) (vs ++ dvs) Q E hr I.env0 (hb s us I.kIn hl) r2 h) fun r s' hq => ?_)
  cases r with
  | error e => exact hx pins σ H s e s' I hq
  | ok fl =>
    cases fl with
    | ret u => exact I.after hq
    | next => exact False.elim hq
    | brk => exact False.elim hq
    | cont => exact False.elim hq

theorem pe_call (F : FnOk X.prog X.w X.K X.mg X.base CX k f fd ps sp) (hr : Room k X.A) (hg : Gl X x) (hm : X.mg x = some (.ref f)) (hk : PySem.W.keepIn X.K (.ref f) = true) (hb : Binds X.K fd ps ds) (hd : Vals dvs ds) (hx : Passes CX X E)
    (ha : PA X (e :: es) t) (hdb : (x == ("__debug__" : Str)) = false := by decide) (he : starEach (e :: es) X.env = (false, eval e X.env) :: starEach es X.env := by rfl) (hpl : (backTo pos (starEach es X.env)).any (·.1) = false := by rfl) :
    PE X (.Call (.Name x p) (e :: es) [] pos) (tCall sp dvs E t) := by
  intro pins s σ H Q I h
  refine wpAny_Call_Name_kw (ld_glob I hg hm ?_ hdb)
  refine PySem.W.callWith_K (h₀ := X.base) I.ok.mod.kin hk (thn (ha pos pins s σ H _ I h) fun us s1 ⟨vs, H1, I1, r, q⟩ => ⟨I1.kIn, ?_⟩) he hpl
  exact run_fn F hr hb hd hx I1 r q
end

/-! ### keywords -/
section
variable {X : Cx} {CX : CXT} {k : Nat} {f C : Addr} {fd : FuncData} {ps ks : List Str} {sp : Sp} {E : XK} {x m : Str} {p pos apos kpos : Pos} {e o : Expr} {es : List Expr} {kws : List Keyword} {te ta : TE} {t tk : TA} {nm : Option Str}
variable {g : List Value → List Value → List Value} {gV : List V → List V → List V}
end

/-! ### a def's body keeps its promise -/
/-- names: the parameters first -/
structure FnScope (N P : List Str) (sc : Scope) : Prop where
  kind : sc.kind = .function
  co : sc.isCoroutine = false
  gen : sc.isGenerator = false
  nd : N.Nodup
  pre : N.take P.length = P
  par : ∀ x ∈ P, sc.names.lookup x = some .local ∨ sc.names.lookup x = some .cell
  nofree : ∀ y ∈ sc.names, y.2 ≠ .free

theorem bindL_out {kindOf : Str → Option NameKind} {x : Str} : ∀ {binds : List (Str × Value)} {m : Str → Option Value}, (∀ v, (x, v) ∉ binds) → bindL kindOf binds m x = m x
  | [], _, _ => rfl
  | (n, v) :: r, m, h => by
    unfold bindL
    rw [bindL_out fun w hw => h w (List.mem_cons_of_mem _ hw)]
    split
    · have : x ≠ n := by rintro rfl; exact h v List.mem_cons_self
      simp [this]
    · rfl
theorem bindC_out {kindOf : Str → Option NameKind} {x : Str} : ∀ {binds : List (Str × Value)} {m : Str → Option Value}, (∀ v, (x, v) ∉ binds) → bindC kindOf binds m x = m x
  | [], _, _ => rfl
  | (n, v) :: r, m, h => by
    unfold bindC
    rw [bindC_out fun w hw => h w (List.mem_cons_of_mem _ hw)]
    split
    · rfl
    · have : x ≠ n := by rintro rfl; exact h v List.mem_cons_self
      simp [this]
theorem bindL_get {kindOf : Str → Option NameKind} {x : Str} {v : Value} : ∀ {P : List Str} {vs : List Value} {i : Nat} {m : Str → Option Value}, P.Nodup → P[i]? = some x → vs[i]? = some v → kindOf x = some .local →
    bindL kindOf (P.zip vs) m x = some v
  | [], _, _, _, _, h, _, _ => by simp at h
  | _ :: _, [], _, _, _, _, h, _ => by simp at h
  | p :: P, w :: vs, 0, m, nd, h1, h2, hk => by
    simp at h1 h2; subst h1; subst h2
    show bindL kindOf ((p, w) :: P.zip vs) m p = _
    unfold bindL
    rw [bindL_out fun v hv => (List.nodup_cons.mp nd).1 (List.of_mem_zip hv).1, if_pos hk]
    simp
  | p :: P, w :: vs, i + 1, m, nd, h1, h2, hk => by
    show bindL kindOf ((p, w) :: P.zip vs) m x = _
    unfold bindL
    exact bindL_get (i := i) (List.nodup_cons.mp nd).2 (by simpa using h1) (by simpa using h2) hk
theorem bindC_get {kindOf : Str → Option NameKind} {x : Str} {v : Value} : ∀ {P : List Str} {vs : List Value} {i : Nat} {m : Str → Option Value}, P.Nodup → P[i]? = some x → vs[i]? = some v → kindOf x ≠ some .local →
    bindC kindOf (P.zip vs) m x = some v
  | [], _, _, _, _, h, _, _ => by simp at h
  | _ :: _, [], _, _, _, _, h, _ => by simp at h
  | p :: P, w :: vs, 0, m, nd, h1, h2, hk => by
    simp at h1 h2; subst h1; subst h2
    show bindC kindOf ((p, w) :: P.zip vs) m p = _
    unfold bindC
    rw [bindC_out fun v hv => (List.nodup_cons.mp nd).1 (List.of_mem_zip hv).1, if_neg hk]
    simp
  | p :: P, w :: vs, i + 1, m, nd, h1, h2, hk => by
    show bindC kindOf ((p, w) :: P.zip vs) m x = _
    unfold bindC
    exact bindC_get (i := i) (List.nodup_cons.mp nd).2 (by simpa using h1) (by simpa using h2) hk

/-- the names' values at the entry -/
def start (N : List Str) (vs : List V) : St := vs.map some ++ List.replicate (N.length - vs.length) none

/-- the context of a def's body, at its entry; an exception leaves the frame, then lies as CX says -/
def cxOf (CX : CXT) (P : Program) (w : World) (K : PySem.W.Frag) (mg : Str → Option Value) (base : Heap) (N : List Str) (qual : Str) (scope : Scope) (f : Addr) (cd : Value) (A : Around) (outer : List Env) (s : Shared) (H : Hp) (E : XK) : Cx where
  prog := P
  w := w
  K := K
  mg := mg
  base := base
  A := A.deeper (envOfC qual scope s.heap.objs.size f cd)
  N := N
  s₀ := s
  H₀ := H
  env := envOfC qual scope s.heap.objs.size f cd
  outer := outer
  stack := envOfC qual scope s.heap.objs.size f cd :: outer
  ex := []
  calm := true
  fn := fun _ => true
  pn := []
  xe := fun e s' => wpAny (model P w) (A.deeper (envOfC qual scope s.heap.objs.size f cd)) (leaving (envOfC qual scope s.heap.objs.size f cd) e) (fun _ s'' => CX outer H s E e s'') (fun e' s'' => CX outer H s E e' s'') s'

theorem cell_has {sc : Scope} {n : Nat} {x : Str} (h : sc.names.lookup x = some .cell) : ∃ c, (cellsFrom n sc.names []).lookup x = some c := by
  have q := PySem.W.cellsFrom_some sc.names n [] (.inl h)
  exact Option.isSome_iff_exists.mp q

theorem inv_start {CX : CXT} {P : Program} {w : World} {K : PySem.W.Frag} {mg : Str → Option Value} {base : Heap} {N ps : List Str} {qual : Str} {scope : Scope} {f : Addr} {cd : Value} {A : Around} {outer : List Env} {s s1 : Shared} {H : Hp} {E : XK} {us : List Value} {vs : List V}
    (S : FnScope N ps scope) (hd : A.handled = none) (e0 : Env0 P w K mg base A outer s H) (hl : vs.length = ps.length) (r : Vals vs us)
    (x : InCallC s s.heap.objs.size (bindL (envOfC qual scope s.heap.objs.size f cd).kindOf (ps.zip us) fun _ => none) (cellsFrom (s.heap.objs.size + 1) scope.names []) (bindC (envOfC qual scope s.heap.objs.size f cd).kindOf (ps.zip us) fun _ => none) s1) :
    Inv (cxOf CX P w K mg base N qual scope f cd A outer s H E) [] (start N vs) H s1 := by
  have hpl : ps.length ≤ N.length := by have := congrArg List.length S.pre; rw [List.length_take] at this; omega
  obtain ⟨h1, tk, rfl, hk⟩ := x.done
  have noA : ∀ b : Addr, b ∉ (cxOf CX P w K mg base N qual scope f cd A outer s H E).ex := fun b z => absurd (show b ∈ ([] : List Addr) from z) (by simp)
  refine ⟨⟨e0.mod, S.kind, rfl, rfl, Nat.le_refl _, fun y z c h1 h2 => ?_, fun y hy => ?_, fun y c _ h => ?_, fun _ => hd, Around.frames_deeper e0.frames, .inr ⟨rfl, rfl⟩, fun b z => absurd z (noA b), e0.bs, e0.bsz, fun b _ _ => noA b, fun b z => absurd z (noA b), e0.funs, e0.frf⟩,
    rfl, e0.bare, Un.kept hk, ⟨_, x.toInCall.ns, fun i y v h1 h2 h3 => ?_⟩, fun y c h => ⟨_, x.cell y c h⟩, e0.hok.fresh (Nat.le_refl _), fun y c h => ?_, fun p hp => absurd (show p ∈ ([] : List (Addr × Obj)) from hp) (by simp), e0.hok.kept hk, ?_⟩
  · exact name_of_addr x.apart (PySem.mem_of_lookup h1) (PySem.mem_of_lookup h2)
  · have hy : scope.names.lookup y = some .cell ∨ scope.names.lookup y = some .free := hy
    rcases hy with hy | hy
    · exact cell_has hy
    · exact absurd rfl (S.nofree _ (PySem.mem_of_lookup hy))
  · exact Nat.le_of_lt (x.above y c (PySem.mem_of_lookup h))
  · have hi : i < vs.length := by
      unfold start at h2
      by_cases hi : i < vs.length
      · exact hi
      · rw [List.getElem?_append_right (by simpa using hi)] at h2
        rw [List.getElem?_replicate] at h2
        split at h2 <;> cases h2
    have ha : vs[i]? = some v := by
      unfold start at h2
      rw [List.getElem?_append_left (by simpa using hi), List.getElem?_map] at h2
      cases e : vs[i]? with
      | none => rw [e] at h2; cases h2
      | some a => rw [e] at h2; cases h2; rfl
    obtain ⟨u, hu, rv⟩ := r.get ha
    have hp : ps[i]? = some y := by
      rw [← S.pre, List.getElem?_take_of_lt (by omega)]; exact h1
    have ndP : ps.Nodup := by rw [← S.pre]; exact S.nd.sublist (List.take_sublist _ _)
    refine ⟨u, rv, ?_⟩
    rcases S.par y (List.mem_of_getElem? hp) with k | k
    · exact .inl ⟨k, bindL_get ndP hp hu k⟩
    · obtain ⟨c, e⟩ := cell_has (n := s.heap.objs.size + 1) k
      refine .inr ⟨.inl k, c, e, ?_⟩
      have q := x.cell y c e
      rw [bindC_get ndP hp hu (by show scope.names.lookup y ≠ _; rw [k]; decide)] at q
      exact q
  · exact e0.hok.fresh (Nat.le_of_lt (x.above y c (PySem.mem_of_lookup h)))
  · unfold start
    show _ = N.length
    rw [List.length_append, List.length_map, List.length_replicate]
    omega

/-- THE RULE: a def (or a method) of the text, by its body. The body's reading t is chosen for each entry; it is run at the parameters' values -/
theorem fn_of {CX : CXT} {P : Program} {w : World} {K : PySem.W.Frag} {mg : Str → Option Value} {base : Heap} {k : Nat} {f : Addr} {name qual : Str} {params : Arguments} {body : List Stmt} {scope : Scope} {dV kV doc pm cdv ct oc : Value} {an od : Option Addr}
    {osl : Array (Option Value)} {N ps : List Str} {sp : Sp} (lk : K.lookup f = some ⟨oc, od, .func (PySem.W.fnOf name qual params body scope dV kV doc pm an cdv ct), osl⟩) (hcd : PySem.W.codeIn K cdv qual = true) (S : FnScope N ps scope)
    (len : ∀ vs H Q E, sp vs H Q E → vs.length = ps.length)
    (hbody : ∀ (A : Around) (outer : List Env) (s : Shared) (H : Hp) (vs : List V) (Q : VK) (E : XK), Room k (A.deeper (envOfC qual scope s.heap.objs.size f cdv)) → sp vs H Q E →
      ∃ t, PSs (cxOf CX P w K mg base N qual scope f cdv A outer s H E) body t ∧ t { nx := fun _ H' => Q .non H', rt := Q } (start N vs) H) :
    FnOk P w K mg base CX (k + 1) f (PySem.W.fnOf name qual params body scope dV kV doc pm an cdv ct) ps sp := by
  refine ⟨len, fun A outer s H args us vs Q E hr e0 hb r hsp => ?_⟩
  have hl := len _ _ _ _ hsp
  have KX : K.In s.heap := e0.mod.kin.keeps fun b o e => (e0.bs b o e).1
  have lim : s.heap.NoLimit := e0.mod.nolimit.keeps fun b o e => (e0.bs b o e).1
  have hkind : ∀ y ∈ ps.zip us, scope.names.lookup y.1 = some .local ∨ (scope.names.lookup y.1 = some .cell ∧ ((cellsFrom (s.heap.objs.size + 1) scope.names []).lookup y.1).isSome = true) := fun ⟨n, v⟩ hy => by
    rcases S.par n (List.of_mem_zip hy).1 with q | q
    · exact .inl q
    · exact .inr ⟨q, PySem.W.cellsFrom_some _ _ _ (.inl q)⟩
  refine codeAny_call_function hr.depth (KX _ _ lk) rfl S.co S.gen rfl (PySem.W.codeRec_of KX hcd) (hb _ _ _ _ ?_)
  refine wpAny_newFunctionEnv_cells S.kind hkind fun env he s1 x => ?_
  subst he
  refine ⟨lim.keeps x.toInCall.keep, codeAny_func ?_⟩
  obtain ⟨t, ht, hq⟩ := hbody A outer s H vs Q E (hr.deeper _) hsp
  have I : Inv (cxOf CX P w K mg base N qual scope f cdv A outer s H E) [] (start N vs) H s1 := inv_start S hr.hd e0 hl r x
  refine wpAny_mono (ht [] s1 (start N vs) H _ I hq) (fun fl s' hs => ?_) fun e s' hs => hs
  have fin : ∀ {σ' : St} {H' : Hp} {v : V} {u : Value}, Inv (cxOf CX P w K mg base N qual scope f cdv A outer s H E) [] σ' H' s' → RelV v u → Q v H' → CE outer P w H s Q u s' :=
    fun {σ' H' v u} J rv q => ⟨v, H', J.os, J.bare, J.base, J.hok, rv, q⟩
  cases fl with
  | ret u =>
    obtain ⟨v, σ', H', J, rv, q⟩ := hs
    exact fin J rv q
  | next =>
    obtain ⟨σ', H', J, q⟩ := hs
    exact fin (v := V.non) (u := Value.none) J rfl q
  | brk =>
    obtain ⟨_, _, _, q⟩ := hs
    exact False.elim q
  | cont =>
    obtain ⟨_, _, _, q⟩ := hs
    exact False.elim q
end L2

namespace L2
open PySem PySem.Spec PyProof.Rows
section
variable {X : Cx} {x : Str} {p pos : Pos} {e : Expr} {es : List Expr} {t : TA} {id T : String} {r : List V → Hp → VK → Prop}

def tCB (r : List V → Hp → VK → Prop) (t : TA) : TE := fun σ H Q => t σ H fun vs H1 => r vs H1 Q
/-- f(e, ..), f a built-in function -/
theorem pe_callB (hc : CallR X (.builtin id) r) (hg : Gl X x) (hm : X.mg x = none) (hv : bootBuiltins x = some (.builtin id)) (ha : PA X (e :: es) t) (hn : x ≠ "__name__" := by decide) (hdb : (x == ("__debug__" : Str)) = false := by decide)
    (he : starEach (e :: es) X.env = (false, eval e X.env) :: starEach es X.env := by rfl) (hpl : (backTo pos (starEach es X.env)).any (·.1) = false := by rfl) : PE X (.Call (.Name x p) (e :: es) [] pos) (tCB r t) := by
  intro pins s σ H Q I h
  refine wpAny_Call_Name_kw (ld_blt I hg hm hv ?_ hn hdb)
  exact PyProof.Rows.callWith_builtin1 (thn (ha pos pins s σ H _ I h) fun us s1 ⟨vs, H1, I1, r1, q1⟩ => hc pins s1 σ H1 vs us Q I1 r1 q1) he hpl
/-- T(e, ..), T a built-in type -/
theorem pe_callTy (hc : CallR X (.type T) r) (hg : Gl X x) (hm : X.mg x = none) (hv : bootBuiltins x = some (.type T)) (ha : PA X (e :: es) t) (hn : x ≠ "__name__" := by decide) (hdb : (x == ("__debug__" : Str)) = false := by decide)
    (he : starEach (e :: es) X.env = (false, eval e X.env) :: starEach es X.env := by rfl) (hpl : (backTo pos (starEach es X.env)).any (·.1) = false := by rfl) : PE X (.Call (.Name x p) (e :: es) [] pos) (tCB r t) := by
  intro pins s σ H Q I h
  refine wpAny_Call_Name_kw (ld_blt I hg hm hv ?_ hn hdb)
  exact PyProof.Rows.callWith_type1 (thn (ha pos pins s σ H _ I h) fun us s1 ⟨vs, H1, I1, r1, q1⟩ => hc pins s1 σ H1 vs us Q I1 r1 q1) he hpl
end
end L2

namespace HT
open PySem PyProof.Rows

section
open PySem.SeqAt
open PySem.AutoSeq1 (wpAny_loadPart')
open PySem.MeetsSeq PySem.MeetsSeq2 PySem.MeetsSeq3

end

section
variable {prog : Program} {w : World} {A : Around} {E : Value → Shared → Prop} {s : Shared}

/-! ### t[a:b], not the whole -/
/-- a slice's bound as a place among n (d where it is left out) -/
def sIx (n d : Nat) : Option Int → Nat
  | none => d
  | some v => if v < 0 then (v + (n : Int)).toNat else min v.toNat n
theorem sIx_none (n d : Nat) : sIx n d none = d := rfl
theorem sIx_nat (n d k : Nat) : sIx n d (some (k : Int)) = min k n := by
  show (if (k : Int) < 0 then ((k : Int) + (n : Int)).toNat else min (k : Int).toNat n) = min k n
  rw [if_neg (by omega), Int.toNat_natCast]
end
end HT

namespace L2
open PySem PySem.Spec PyProof.Rows

/-! ### the parts of a slice -/
abbrev TO := St → Hp → (Option Int → Hp → Prop) → Prop
/-- a slice's part (left out, or an int) -/
def PO (X : Cx) (e : Option Expr) (t : TO) : Prop :=
  ∀ (pins : List (Addr × Obj)) (s : Shared) (σ : St) (H : Hp) (Q : Option Int → Hp → Prop), Inv X pins σ H s → t σ H Q →
    wpAny (model X.prog X.w) X.A (evalPart e X.env) (fun u s' => ∃ o H', Inv X pins σ H' s' ∧ IsPart u o ∧ Q o H') X.xe s
def tNoPart : TO := fun _ H Q => Q none H
def tPart (t : TE) : TO := fun σ H Q => t σ H fun x H1 => ∃ i, x = .int i ∧ Q (some i) H1

section
variable {X : Cx} {e : Expr} {te : TE} {lo hi : Option Expr} {tl th : TO} {pos p2 : Pos}

theorem po_none : PO X none tNoPart := by
  intro pins s σ H Q I h
  rw [evalPart_none]
  exact wpAny_pure ⟨none, H, I, .none, h⟩
theorem po_some (h : PE X e te) : PO X (some e) (tPart te) := by
  intro pins s σ H Q I hw
  rw [evalPart_some]
  refine thn (h pins s σ H _ I hw) fun u s1 ⟨x, H1, I1, r1, q1⟩ => ?_
  obtain ⟨i, rfl, q⟩ := q1
  obtain ⟨t, rfl⟩ := r1
  exact ⟨some i, H1, I1, .int i t, q⟩

/-- what a slice of a value is, by values: the slice object stands at sl -/
def SlR (X : Cx) (r : V → Option Int → Option Int → Hp → VK → Prop) : Prop :=
  ∀ (pins : List (Addr × Obj)) (s : Shared) (σ : St) (H : Hp) (x : V) (v vl vu : Value) (lo hi : Option Int) (sl : Addr) (Q : VK), Inv X pins σ H s → RelV x v → s.heap.IsSliceOf sl vl vu .none → IsPart vl lo → IsPart vu hi → r x lo hi H Q →
    ∃ T id, typeLookup (.type T) "__getitem__" = pure (some (.builtin id)) ∧ s.TypeIs v T ∧ wpAny (model X.prog X.w) X.A (getItem v (.ref sl)) (EP X pins σ Q) X.xe s
def tSl (r : V → Option Int → Option Int → Hp → VK → Prop) (te : TE) (tl th : TO) : TE := fun σ H Q => te σ H fun x H1 => tl σ H1 fun l H2 => th σ H2 fun u H3 => r x l u H3 Q
/-- a[lo:hi], any a -/
theorem pe_slice {r : V → Option Int → Option Int → Hp → VK → Prop} (hr : SlR X r) (he : PE X e te) (hl : PO X lo tl) (hu : PO X hi th) : PE X (.Subscript e (.Slice lo hi none p2) pos) (tSl r te tl th) := by
  intro pins s σ H Q I h
  refine Subscript_ (thn (he pins s σ H _ I h) fun v s1 ⟨x, H1, I1, r1, q1⟩ => ?_)
  refine wpAny_Slice (thn (hl pins s1 σ H1 _ I1 q1) fun vl s2 ⟨l, H2, I2, pl, q2⟩ => thn (hu pins s2 σ H2 _ I2 q2) fun vu s3 ⟨u, H3, I3, pu, q3⟩ => ?_)
  rw [evalPart_none]
  refine wpAny_pure ?_
  have I4 : Inv X pins σ H3 { s3 with heap := s3.heap.push { cls := .type "slice", data := .fields #[vl, vu, .none] } } := I3.kept (t' := s3.toks) fun b ob q => Heap.get?_push_of_some _ q
  obtain ⟨T, id, hT, ht, hg⟩ := hr pins { s3 with heap := s3.heap.push { cls := .type "slice", data := .fields #[vl, vu, .none] } } σ H3 x v vl vu l u s3.heap.objs.size Q I4 r1 (Heap.IsSliceOf.new ..) pl pu q3
  show wpAny (model X.prog X.w) X.A (subscriptTail e (.Slice lo hi none p2) v (.ref s3.heap.objs.size)) (EP X pins σ Q) X.xe { s3 with heap := s3.heap.push { cls := .type "slice", data := .fields #[vl, vu, .none] } }
  exact tail_any (ops := [.ref s3.heap.objs.size, v]) ht hT hg (by with_unfolding_all rfl)

/-- the items of xs[lo:hi] -/
def cutV (xs : List V) (lo hi : Option Int) : List V := (xs.drop (HT.sIx xs.length 0 lo)).take (HT.sIx xs.length xs.length hi - HT.sIx xs.length 0 lo)
theorem cutV_length (xs : List V) (lo hi : Option Int) : (cutV xs lo hi).length ≤ xs.length := by
  unfold cutV
  rw [List.length_take, List.length_drop]
  omega
/-! ### t < u, t + u -/
end
end L2

namespace L2
open PySem PySem.Spec PyProof.Rows

/-! ### places -/
/-- the place that an index of any sign means -/
def ixN (n : Nat) (i : Int) : Option Nat := if 0 ≤ i then (if i < n then some i.toNat else none) else if -(n : Int) ≤ i then some (i + n).toNat else none
def atI {α : Type} (xs : List α) (i : Int) : Option α := (ixN xs.length i).bind fun j => xs[j]?
theorem ixN_seq {n : Nat} {i : Int} {j : Nat} (h : ixN n i = some j) : seqIndex? i n = some j ∧ j < n ∧ -(n : Int) ≤ i ∧ i < n := by
  unfold ixN at h
  by_cases h0 : 0 ≤ i
  · rw [if_pos h0] at h
    by_cases h1 : i < n
    · rw [if_pos h1] at h
      have e : i.toNat = j := Option.some.inj h
      exact ⟨by rw [seqIndex_of h0 h1, e], by omega, by omega, h1⟩
    · rw [if_neg h1] at h; cases h
  · rw [if_neg h0] at h
    by_cases h1 : -(n : Int) ≤ i
    · rw [if_pos h1] at h
      have e : (i + n).toNat = j := Option.some.inj h
      exact ⟨by rw [seqIndex_neg (by omega) h1, e], by omega, h1, by omega⟩
    · rw [if_neg h1] at h; cases h
theorem atI_get {α : Type} {xs : List α} {i : Int} {v : α} (h : atI xs i = some v) : ∃ j, seqIndex? i xs.length = some j ∧ xs[j]? = some v ∧ j < xs.length ∧ -(xs.length : Int) ≤ i ∧ i < xs.length := by
  unfold atI at h
  cases e : ixN xs.length i with
  | none => rw [e] at h; cases h
  | some j =>
    rw [e] at h
    obtain ⟨h1, h2, h3, h4⟩ := ixN_seq e
    exact ⟨j, h1, h, h2, h3, h4⟩
theorem atI_nat {α : Type} {xs : List α} {j : Nat} {v : α} (h : xs[j]? = some v) : atI xs (j : Int) = some v := by
  have hj : j < xs.length := (List.getElem?_eq_some_iff.mp h).1
  have e : ixN xs.length (j : Int) = some j := by
    unfold ixN
    rw [if_pos (by omega), if_pos (by omega)]; simp
  unfold atI; rw [e]; exact h
/-! ### what may be subscripted -/
/-- what stands as an index of a plain subscript -/
def PlainIx (b : Expr) : Prop := ∀ o i, subscripted b false o i = operate [o, i] (getItem o i)
/-- a subscript by values -/
def IxR (X : Cx) (r : R2) : Prop :=
  ∀ (value slice : Expr) (pins : List (Addr × Obj)) (s : Shared) (σ : St) (H : Hp) (x y : V) (v u : Value) (Q : VK), Inv X pins σ H s → RelV x v → RelV y u → r x y H Q →
    subscripted slice false v u = operate [v, u] (getItem v u) → wpAny (model X.prog X.w) X.A (subscriptTail value slice v u) (EP X pins σ Q) X.xe s
/-- a call of a builtin's method by values: the receiver, the arguments -/
def MtR (X : Cx) (id : String) (r : V → List V → Hp → VK → Prop) : Prop :=
  ∀ (pins : List (Addr × Obj)) (s : Shared) (σ : St) (H : Hp) (x : V) (xs : List V) (v : Value) (us : List Value) (Q : VK), Inv X pins σ H s → RelV x v → Vals xs us → r x xs H Q →
    wpAny (model X.prog X.w) X.A (call (.builtin id) (v :: us)) (EP X pins σ Q) X.xe s
section
variable {X : Cx} {a b : Expr} {ta tb : TE} {pos : Pos}
theorem IxR.or {r r' : R2} (h : IxR X r) (h' : IxR X r') : IxR X (fun x y H Q => r x y H Q ∨ r' x y H Q) := by
  intro value slice pins s σ H x y v u Q I rx ry q hs
  rcases q with q | q
  · exact h value slice pins s σ H x y v u Q I rx ry q hs
  · exact h' value slice pins s σ H x y v u Q I rx ry q hs
/-- a[b] -/
theorem pe_ix {r : R2} (hr : IxR X r) (ha : PE X a ta) (hb : PE X b tb) (hs : PlainIx b) : PE X (.Subscript a b pos) (tOp r ta tb) := by
  intro pins s σ H Q I h
  exact Subscript_ (binT ha hb I h fun v u s2 x y H2 I2 rx ry q => hr a b pins s2 σ H2 x y v u Q I2 rx ry q (hs _ _))

def rIxL (K : PySem.W.Frag) : R2 := fun x y H Q => ∃ p xs i v, x = .ref p ∧ y = .int i ∧ SqL K H p xs ∧ atI xs i = some v ∧ Q v H
def rIxT (K : PySem.W.Frag) : R2 := fun x y H Q => ∃ p xs i v, x = .ref p ∧ y = .int i ∧ SqT K H p xs ∧ atI xs i = some v ∧ Q v H
def rIxS : R2 := fun x y H Q => ∃ z i c, x = .str z ∧ y = .int i ∧ z.length ≤ sizeLine ∧ atI z.cps.toList i = some c ∧ Q (.str ⟨#[c]⟩) H
theorem ix_list : IxR X (rIxL X.K) := by
  intro value slice pins s σ H x y v u Q I rx ry h hs
  obtain ⟨p, xs, i, z, rfl, rfl, hq, he, q⟩ := h
  cases rx
  obtain ⟨t, rfl⟩ := ry
  obtain ⟨its, r, pl, hz⟩ := I.list hq
  obtain ⟨j, h1, h2, h3, h4, h5⟩ := atI_get he
  obtain ⟨w, ew, rw'⟩ := r.get h2
  have hl := r.length
  have hn := line63
  have fin : EP X pins σ Q w s := ⟨z, H, I, rw', q⟩
  by_cases h0 : 0 ≤ i
  · have hj : i.toNat = j := by
      rw [seqIndex_of h0 h5] at h1
      exact Option.some.inj h1
    exact item_listR pl.isList h0 (by omega) (by rw [hj]; simpa using ew) fin hs
  · have hj : (i + (its.toArray.size : Int)).toNat = j := by
      rw [seqIndex_neg (by omega) h4] at h1
      rw [List.size_toArray, ← hl]
      exact Option.some.inj h1
    exact subscriptTail_builtinR (x := w) pl.isList.typeIs slot_list_getitem.lookup
      (wpAny_getItem_list_neg (Q := fun r s' => r = w ∧ EP X pins σ Q r s') pl.isList (by omega) (by rw [List.size_toArray] <;> omega) (by omega) (by rw [hj]; simpa using ew) ⟨rfl, fin⟩) hs
theorem ix_tup : IxR X (rIxT X.K) := by
  intro value slice pins s σ H x y v u Q I rx ry h hs
  obtain ⟨p, xs, i, z, rfl, rfl, hq, he, q⟩ := h
  cases rx
  obtain ⟨t, rfl⟩ := ry
  obtain ⟨its, r, pl, hz⟩ := I.tuple hq
  obtain ⟨j, h1, h2, h3, h4, h5⟩ := atI_get he
  obtain ⟨w, ew, rw'⟩ := r.get h2
  have hl := r.length
  have hn := line63
  have fin : EP X pins σ Q w s := ⟨z, H, I, rw', q⟩
  exact subscriptTail_builtinR (x := w) pl.typeIs slot_tuple_getitem.lookup
    (getItem_tuple (j := j) (Q := fun r s' => r = w ∧ EP X pins σ Q r s') pl (by omega) (by omega) (by rw [List.size_toArray, ← hl]; exact h1) (by simpa using ew) ⟨rfl, fin⟩) hs
theorem ix_str : IxR X rIxS := by
  intro value slice pins s σ H x y v u Q I rx ry h hs
  obtain ⟨z, i, c, rfl, rfl, hz, he, q⟩ := h
  obtain ⟨t, rfl⟩ := rx
  obtain ⟨t', rfl⟩ := ry
  obtain ⟨j, h1, h2, h3, h4, h5⟩ := atI_get he
  have hl : z.cps.toList.length = z.length := by simp [Str.length]
  rw [hl] at h1 h4 h5
  have hn := line63
  exact tail_any (typeIs_str s z t) slot_str_getitem.lookup (getItem_str (c := c) (by
    have e1 : decide (i < -(2 ^ 63 : Int)) = false := decide_eq_false (by omega)
    have e2 : decide (i ≥ 2 ^ 63) = false := decide_eq_false (by omega)
    rw [e1, e2, Bool.or_false]) (by rw [h1]; simpa using h2) ⟨.str ⟨#[c]⟩, H, I.tok _, ⟨_, rfl⟩, q⟩) hs
/-- list, tuple or str -/
def rIx (K : PySem.W.Frag) : R2 := fun x y H Q => rIxL K x y H Q ∨ rIxT K x y H Q ∨ rIxS x y H Q
theorem ix_seq : IxR X (rIx X.K) := ix_list.or (ix_tup.or ix_str)

/-! ### xs[i] = v, any sign -/
/-- the list's object behind a store -/
theorem mapSeq_set (its : List Value) (n j : Nat) (u : Value) : Obj.mapSeq (·.setIfInBounds j u) { cls := .type "list", data := .seq its.toArray n } = { cls := .type "list", data := .seq (its.set j u).toArray n } := by
  simp [Obj.mapSeq]
theorem Inv.lst {pins : List (Addr × Obj)} {σ : St} {H : Hp} {s : Shared} {p : Addr} {xs : List V} (I : Inv X pins σ H s) (h : H p = some (.lst xs)) :
    ∃ (its : List Value) (n : Nat), Vals xs its ∧ s.heap.get? p = some { cls := .type "list", data := .seq its.toArray n } ∧ xs.length ≤ sizeLine := by
  obtain ⟨z, its, n, r, e⟩ := I.hok p _ h
  exact ⟨its, n, r, e, z⟩
/-- the list at p is written by an update of its object -/
theorem Inv.lstUpd {pins : List (Addr × Obj)} {σ : St} {H : Hp} {s : Shared} {p : Addr} {xs ys : List V} {its its' : List Value} {n n' : Nat} {f : Obj → Obj} (I : Inv X pins σ H s) (h : H p = some (.lst xs))
    (ho : s.heap.get? p = some { cls := .type "list", data := .seq its.toArray n }) (hf : f { cls := .type "list", data := .seq its.toArray n } = { cls := .type "list", data := .seq its'.toArray n' }) (r : Vals ys its') (hz : ys.length ≤ sizeLine) (t : Nat) :
    Inv X pins σ (upd H p (.lst ys)) { s with heap := s.heap.update p f, toks := t } := by
  have e : (s.heap.update p f).get? p = some { cls := .type "list", data := .seq its'.toArray n' } := by
    rw [Heap.get?_update_self f ho (by rw [hf] <;> rfl), hf]
  refine I.write (x := p) (e := p) (by rw [h]; trivial) (.inl rfl) (fun b u hb q => (Heap.get?_update_other _ _ (Ne.symm hb)).trans q) ⟨_, e⟩ ?_
  exact ⟨hz, its', n', r, e⟩
def rSetL : V → V → V → Hp → (Hp → Prop) → Prop := fun o i v H Q => ∃ p xs k j, o = .ref p ∧ i = .int k ∧ H p = some (.lst xs) ∧ ixN xs.length k = some j ∧ Q (upd H p (.lst (xs.set j v)))
theorem set_list : PSet X rSetL := by
  intro pins s σ H o i v ov iv u Q I ro ri rv h
  obtain ⟨p, xs, k, j, rfl, rfl, hp, hj, q⟩ := h
  cases ro
  obtain ⟨t, rfl⟩ := ri
  obtain ⟨its, n, r, ho, hz⟩ := I.lst hp
  obtain ⟨h1, h2, h3, h4⟩ := ixN_seq hj
  have hl := r.length
  have hn := line63
  have I' : Inv X pins σ (upd H p (.lst (xs.set j v))) { s with heap := s.heap.update p (Obj.mapSeq (·.setIfInBounds j u)) } :=
    I.lstUpd hp ho (mapSeq_set its n j u) (r.set rv j) (by rw [List.length_set]; exact hz) s.toks
  by_cases h0 : 0 ≤ k
  · have hk : k.toNat = j := by
      rw [seqIndex_of h0 h4] at h1
      exact Option.some.inj h1
    exact PySem.W.ki_setAt ho h0 (by omega) (by rw [List.size_toArray, ← hl]; exact h4) (by rw [hk]; exact ⟨_, I', q⟩)
  · have hk : (k + (its.toArray.size : Int)).toNat = j := by
      rw [seqIndex_neg (by omega) h3] at h1
      rw [List.size_toArray, ← hl]
      exact Option.some.inj h1
    exact PySem.W.ki_setBack ho (by omega) (by rw [List.size_toArray, ← hl]; exact h3) (by omega) (by rw [hk]; exact ⟨_, I', q⟩)

/-! ### slices -/
theorem slice_bounds (lo hi : Option Int) (n : Nat) : (sliceBounds lo hi none n).1 = ((HT.sIx n 0 lo : Nat) : Int) ∧ (sliceBounds lo hi none n).2.1 = ((HT.sIx n n hi : Nat) : Int) ∧ (sliceBounds lo hi none n).2.2 = 1 := by
  refine ⟨?_, ?_, rfl⟩
  · cases lo with
    | none => simp [sliceBounds, HT.sIx]
    | some i =>
      simp only [sliceBounds, HT.sIx, Option.getD_none, show (1 : Int) > 0 by decide, if_true]
      by_cases h : i < 0
      · simp only [h, if_true] <;> omega
      · simp only [h, if_false] <;> omega
  · cases hi with
    | none => simp [sliceBounds, HT.sIx]
    | some i =>
      simp only [sliceBounds, HT.sIx, Option.getD_none, show (1 : Int) > 0 by decide, if_true]
      by_cases h : i < 0
      · simp only [h, if_true] <;> omega
      · simp only [h, if_false] <;> omega
theorem slicePick_cut (its : List Value) (lo hi : Option Int) : slicePick its.toArray lo hi none = ((its.drop (HT.sIx its.length 0 lo)).take (HT.sIx its.length its.length hi - HT.sIx its.length 0 lo)).toArray := by
  obtain ⟨h1, h2, h3⟩ := slice_bounds lo hi its.toArray.size
  unfold slicePick
  rw [h1, h2, h3]
  simp only [sliceRange_one, pick_run, List.size_toArray] <;> rfl
/-- xs[lo:hi] of a list: a new list -/
def rSlL (K : PySem.W.Frag) : V → Option Int → Option Int → Hp → VK → Prop := fun x lo hi H Q => ∃ a xs, x = .ref a ∧ SqL K H a xs ∧ ∀ p, H p = none → Q (.ref p) (upd H p (.lst (cutV xs lo hi)))
theorem sl_list : SlR X (rSlL X.K) := by
  intro pins s σ H x v vl vu lo hi sl Q I rx hs pl pu h
  obtain ⟨a, xs, rfl, hx, q⟩ := h
  cases rx
  obtain ⟨its, r, ht, hz⟩ := I.list hx
  have hlen := r.length
  refine ⟨"list", _, slot_list_getitem.lookup, ht.isList.typeIs, ?_⟩
  refine wpAny_getItem_list_slice ht.isList hs pl pu .none (by simp) ?_ (by rw [List.size_toArray] <;> omega)
  rw [slicePick_cut, ← hlen]
  refine ⟨.ref s.heap.objs.size, _, I.laid (t' := s.toks) (o := .lst (cutV xs lo hi)) (fun b ob q => Heap.get?_push_of_some _ q) (Nat.le_refl _) ?_, rfl, q _ (I.hok.fresh (Nat.le_refl _))⟩
  exact ⟨Nat.le_trans (cutV_length xs lo hi) hz, _, 0, (r.drop (HT.sIx xs.length 0 lo)).take (HT.sIx xs.length xs.length hi - HT.sIx xs.length 0 lo), Heap.get?_push_size _ rfl⟩

/-! ### in, not in: flat items -/
def flatV : V → Bool
  | .non => true
  | .bl _ => true
  | .int _ => true
  | .str _ => true
  | _ => false
/-- == of flat values -/
def eqV : V → V → Bool
  | .non, .non => true
  | .bl a, .bl b => a == b
  | .bl a, .int b => (if a then 1 else 0) == b
  | .int a, .bl b => a == (if b then 1 else 0)
  | .int a, .int b => a == b
  | .str a, .str b => a == b
  | _, _ => false
theorem eqAt_V {A : Around} {s : Shared} {y x : V} {u v : Value} (ry : RelV y u) (rx : RelV x v) (fy : flatV y = true) (fx : flatV x = true) : SeqAt.EqAt A s u v (eqV y x) := by
  cases y with
  | non =>
    cases ry
    cases x with
    | non => cases rx; exact SeqAt.EqAt.same _
    | bl b => cases rx; exact SeqAt.EqAt.none_bool b
    | int b => obtain ⟨t, rfl⟩ := rx; exact SeqAt.EqAt.none_int b t
    | str b => obtain ⟨t, rfl⟩ := rx; exact SeqAt.EqAt.none_str b t
    | _ => exact absurd (show false = true from fx) Bool.false_ne_true
  | bl a =>
    cases ry
    cases x with
    | non => cases rx; exact SeqAt.EqAt.bool_none a
    | bl b => cases rx; exact SeqAt.EqAt.bool_bool a b
    | int b => obtain ⟨t, rfl⟩ := rx; exact SeqAt.EqAt.bool_int a b t
    | str b => obtain ⟨t, rfl⟩ := rx; exact SeqAt.EqAt.bool_str a b t
    | _ => exact absurd (show false = true from fx) Bool.false_ne_true
  | int a =>
    obtain ⟨t', rfl⟩ := ry
    cases x with
    | non => cases rx; exact SeqAt.EqAt.int_none a t'
    | bl b => cases rx; exact SeqAt.EqAt.int_bool a t' b
    | int b => obtain ⟨t, rfl⟩ := rx; exact SeqAt.EqAt.int_int a t' b t
    | str b => obtain ⟨t, rfl⟩ := rx; exact SeqAt.EqAt.int_str a t' b t
    | _ => exact absurd (show false = true from fx) Bool.false_ne_true
  | str a =>
    obtain ⟨t', rfl⟩ := ry
    cases x with
    | non => cases rx; exact SeqAt.EqAt.str_none a t'
    | bl b => cases rx; exact SeqAt.EqAt.str_bool a t' b
    | int b => obtain ⟨t, rfl⟩ := rx; exact SeqAt.EqAt.str_int a t' b t
    | str b => obtain ⟨t, rfl⟩ := rx; exact SeqAt.EqAt.str_str a t' b t
    | _ => exact absurd (show false = true from fx) Bool.false_ne_true
  | _ => exact absurd (show false = true from fy) Bool.false_ne_true
/-- the items' answers, read off the values (a value's own answer does not lean on its token) -/
def eqU (x : V) (u : Value) : Bool := match u with
  | .none => eqV .non x
  | .bool b => eqV (.bl b) x
  | .int i _ => eqV (.int i) x
  | .str z _ => eqV (.str z) x
  | _ => false
theorem eqU_of {x y : V} {u : Value} (r : RelV y u) (f : flatV y = true) : eqU x u = eqV y x := by
  cases y with
  | non => cases r; rfl
  | bl b => cases r; rfl
  | int i => obtain ⟨t, rfl⟩ := r; rfl
  | str z => obtain ⟨t, rfl⟩ := r; rfl
  | _ => exact absurd (show false = true from f) Bool.false_ne_true
theorem mem_eqAt {A : Around} {s : Shared} {x : V} {v : Value} (rx : RelV x v) (fx : flatV x = true) : ∀ {xs : List V} {us : List Value}, Vals xs us → xs.all flatV = true → ∀ u ∈ us, SeqAt.EqAt A s u v (eqU x u)
  | _, _, .nil, _ => fun u hu => by cases hu
  | y :: xs, u :: us, .cons r t, f => fun u' hu => by
    rw [List.all_cons, Bool.and_eq_true] at f
    rcases List.mem_cons.mp hu with rfl | hu
    · rw [eqU_of r f.1]; exact eqAt_V r rx f.1 fx
    · exact mem_eqAt rx fx t f.2 u' hu
/-! ### len, list(x), tuple(x) of any list or tuple that is read -/
theorem call_len_seq : CallR X (.builtin "len") (fun xs H Q => ∃ p ys, xs = [.ref p] ∧ (SqL X.K H p ys ∨ SqT X.K H p ys) ∧ Q (.int ys.length) H) := by
  intro pins s σ H xs us Q I r h
  obtain ⟨p, ys, rfl, hq, q⟩ := h
  obtain ⟨u, rfl, rx⟩ := vals1 r
  cases rx
  have hn := line63
  rcases hq with hq | hq
  · obtain ⟨its, r', pl, hz⟩ := I.list hq
    have hlen := r'.length
    exact Calls.call_len_list pl.isList (by simp only [List.size_toArray] <;> omega) ⟨.int ys.length, H, I.tok _, ⟨s.toks + 1, by rw [List.size_toArray, hlen]⟩, q⟩
  · obtain ⟨its, r', pl, hz⟩ := I.tuple hq
    have hlen := r'.length
    exact len_tuple pl (by simp only [List.size_toArray] <;> omega) ⟨.int ys.length, H, I.tok _, ⟨s.toks + 1, by rw [List.size_toArray, hlen]⟩, q⟩
theorem call_list_of : CallR X (.type "list") (fun xs H Q => ∃ p ys, xs = [.ref p] ∧ (SqL X.K H p ys ∨ SqT X.K H p ys) ∧ ∀ l, H l = none → Q (.ref l) (upd H l (.lst ys))) := by
  intro pins s σ H xs us Q I r h
  obtain ⟨p, ys, rfl, hq, q⟩ := h
  obtain ⟨u, rfl, rx⟩ := vals1 r
  cases rx
  have fin : ∀ (its : List Value), Vals ys its → ys.length ≤ sizeLine → ∀ (h' : Heap) (c' : Nat), (∀ b o', s.heap.get? b = some o' → h'.get? b = some o') →
      h'.get? s.heap.objs.size = some { cls := .type "list", dict := none, data := .seq its.toArray c', slots := #[] } → EP X pins σ Q (.ref s.heap.objs.size) { s with heap := h' } := fun its r' hz h' c' kp e =>
    ⟨.ref s.heap.objs.size, _, I.laid (t' := s.toks) kp (Nat.le_refl _) (show ObjOk X.prog X.w _ h' _ (.lst ys) from ⟨hz, its, c', r', e⟩), rfl, q _ (I.hok.fresh (Nat.le_refl _))⟩
  rcases hq with hq | hq
  · obtain ⟨its, r', pl, hz⟩ := I.list hq
    have hlen := r'.length
    obtain ⟨o, ho, hc, n, hd⟩ := pl.isList
    exact call_list_seq p (.inl rfl) ho hc hd (fun h' c' kp e => fin its r' hz h' c' kp e) (by simp only [List.size_toArray] <;> omega)
  · obtain ⟨its, r', pl, hz⟩ := I.tuple hq
    have hlen := r'.length
    obtain ⟨o, ho, hc, n, hd⟩ := pl
    exact call_list_seq p (.inr rfl) ho hc hd (fun h' c' kp e => fin its r' hz h' c' kp e) (by simp only [List.size_toArray] <;> omega)
theorem call_tuple_of : CallR X (.type "tuple") (fun xs H Q => ∃ p ys, xs = [.ref p] ∧ ((SqL X.K H p ys ∧ ∀ l, H l = none → Q (.ref l) (upd H l (.tup ys))) ∨ (SqT X.K H p ys ∧ Q (.ref p) H))) := by
  intro pins s σ H xs us Q I r h
  obtain ⟨p, ys, rfl, h⟩ := h
  obtain ⟨u, rfl, rx⟩ := vals1 r
  cases rx
  rcases h with ⟨hq, q⟩ | ⟨hq, q⟩
  · obtain ⟨its, r', pl, hz⟩ := I.list hq
    have hlen := r'.length
    refine call_tuple_list pl.isList (fun h' kp => ?_) (by simp only [List.size_toArray] <;> omega)
    have I1 : Inv X pins σ H { s with heap := h' } := I.kept (t' := s.toks) kp
    have I2 : Inv X pins σ (upd H h'.objs.size (.tup ys)) { s with heap := h'.push { cls := .type "tuple", data := .seq its.toArray } } :=
      I1.laid (t' := s.toks) (fun b o e => Heap.get?_push_of_some _ e) (Nat.le_refl _) (show ObjOk X.prog X.w _ _ _ (.tup ys) from ⟨hz, its, r', IsTup.new _ _⟩)
    exact ⟨.ref h'.objs.size, _, I2, rfl, q _ (I1.hok.fresh (Nat.le_refl _))⟩
  · obtain ⟨its, r', pl, hz⟩ := I.tuple hq
    exact call_tuple_same pl ⟨.ref p, H, I, rfl, q⟩

/-! ### the call of a builtin's method: o.m(..) -/
/-- the value is of that builtin type -/
def tyV (K : PySem.W.Frag) (T : String) (x : V) (H : Hp) : Prop := match x with
  | .str _ => T = "str"
  | .int _ => T = "int"
  | .ref p => (T = "list" ∧ ∃ xs, SqL K H p xs) ∨ (T = "tuple" ∧ ∃ o, K.lookup p = some o ∧ o.cls = .type "tuple" ∧ o.dict = none) ∨
      (T = "dict" ∧ ((∃ kvs, H p = some (.dK kvs)) ∨ ∃ kvs, H p = some (.dT kvs))) ∨ (T = "set" ∧ ∃ S n, H p = some (.set S n))
  | _ => False
theorem tyV_is {pins : List (Addr × Obj)} {σ : St} {H : Hp} {s : Shared} {T : String} {x : V} {v : Value} (I : Inv X pins σ H s) (r : RelV x v) (ty : tyV X.K T x H) :
    s.TypeIs v T ∧ ∀ a, v = .ref a → ∃ ob, s.heap.get? a = some ob ∧ ob.dict = none := by
  cases x with
  | str z =>
    obtain ⟨t, rfl⟩ := r
    cases (show T = "str" from ty)
    exact ⟨typeIs_str s z t, fun _ e => nomatch e⟩
  | int i =>
    obtain ⟨t, rfl⟩ := r
    cases (show T = "int" from ty)
    exact ⟨typeIs_int s i t, fun _ e => nomatch e⟩
  | ref p =>
    cases r
    rcases ty with ⟨rfl, xs, hq⟩ | ⟨rfl, o, hk, hc, hd⟩ | ⟨rfl, hk⟩ | ⟨rfl, S, n, hk⟩
    · obtain ⟨its, _, pl, _⟩ := I.list hq
      refine ⟨pl.isList.typeIs, fun a e => ?_⟩
      cases e
      obtain ⟨o, n, e, c, hd, _⟩ := pl
      exact ⟨o, e, hd⟩
    · refine ⟨⟨o, I.kIn p o hk, hc⟩, fun a e => ?_⟩
      cases e
      exact ⟨o, I.kIn _ o hk, hd⟩
    · have z : ∃ o, s.heap.get? p = some o ∧ o.ExactDict := by
        rcases hk with ⟨kvs, hk⟩ | ⟨kvs, hk⟩
        · obtain ⟨_, _, _, _, o, _, _, e, ex, _⟩ := I.hok p _ hk
          exact ⟨o, e, ex⟩
        · obtain ⟨_, _, _, _, o, _, _, e, ex, _⟩ := I.hok p _ hk
          exact ⟨o, e, ex⟩
      obtain ⟨o, e, ex⟩ := z
      refine ⟨⟨o, e, ex.1⟩, fun a e2 => ?_⟩
      cases e2
      exact ⟨o, e, ex.2.1⟩
    · obtain ⟨o, _, _, _, e, ex, _⟩ := I.hok p _ hk
      refine ⟨⟨o, e, ex.1⟩, fun a e2 => ?_⟩
      cases e2
      exact ⟨o, e, ex.2.1⟩
  | _ => exact False.elim ty
def tBM0 (K : PySem.W.Frag) (T : String) (r : V → List V → Hp → VK → Prop) (to : TE) : TE := fun σ H Q => to σ H fun x H1 => tyV K T x H1 ∧ r x [] H1 Q
def tBM (K : PySem.W.Frag) (T : String) (r : V → List V → Hp → VK → Prop) (to : TE) (t : TA) : TE := fun σ H Q => to σ H fun x H1 => tyV K T x H1 ∧ t σ H1 fun xs H2 => r x xs H2 Q
variable {o e : Expr} {es : List Expr} {to : TE} {t : TA} {name : Str} {apos cpos : Pos} {T id : String} {r : V → List V → Hp → VK → Prop}
theorem pe_bm0 (pa : PlainAttrs T) (slot : Slot T name id) (hty : typeOf (.builtin id) = pure (.type "method_descriptor")) (hm : MtR X id r) (ho : PE X o to)
    (hbase : attributeBase o name X.env (eval o X.env) = eval o X.env := by rfl) (hline : (apos.endLine == cpos.line) = true := by rfl) : PE X (.Call (.Attribute o name apos) [] [] cpos) (tBM0 X.K T r to) := by
  intro pins s σ H Q I h
  refine wpAny_Call_method0_late hbase hline (thn (ho pins s σ H _ I h) fun v s1 ⟨x, H1, I1, r1, ty, q1⟩ => ?_)
  obtain ⟨h1, h2⟩ := tyV_is I1 r1 ty
  exact ⟨T, id, pa, slot, hty, h1, h2, Calls.callWith_builtin rfl (PySem.evalArgs_none (hm pins s1 σ H1 x [] v [] Q I1 r1 .nil q1))⟩
theorem pe_bm (pa : PlainAttrs T) (slot : Slot T name id) (hty : typeOf (.builtin id) = pure (.type "method_descriptor")) (hm : MtR X id r) (ho : PE X o to) (ha : PA X (e :: es) t)
    (hbase : attributeBase o name X.env (eval o X.env) = eval o X.env := by rfl)
    (hfew : ((backTo cpos (starEach (e :: es) X.env)).all (fun x => !x.1) && (backToKw cpos (keywordEach [] X.env)).all (fun x => x.1.isSome)
      && decide ((e :: es).length + ([] : List Keyword).length + (if ([] : List Keyword).isEmpty then 0 else 1) < 30)) = true := by rfl)
    (hline : (apos.endLine == cpos.line) = true := by rfl) (hs : starEach (e :: es) X.env = (false, eval e X.env) :: starEach es X.env := by rfl) (hplain : (backTo cpos (starEach es X.env)).any (·.1) = false := by rfl) :
    PE X (.Call (.Attribute o name apos) (e :: es) [] cpos) (tBM X.K T r to t) := by
  intro pins s σ H Q I h
  refine wpAny_Call_method_late hbase hfew hline rfl (thn (ho pins s σ H _ I h) fun v s1 ⟨x, H1, I1, r1, ty, q1⟩ => ?_)
  obtain ⟨h1, h2⟩ := tyV_is I1 r1 ty
  refine ⟨T, id, pa, slot, hty, h1, h2, ?_⟩
  have hA := ha cpos pins s1 σ H1 _ I1 q1
  rw [hs] at hA ⊢
  refine Calls.callWith_builtin (by show (false || (backTo cpos (starEach es X.env)).any (·.1)) = false; rw [hplain] <;> rfl) (Calls.evalArgs_plain ?_)
  exact thn hA fun us s2 ⟨vs, H2, I2, r2, q2⟩ => hm pins s2 σ H2 x vs v us Q I2 r1 r2 q2
/- xs.append(e), list.index on a module's tuple .. are MtR facts of 06m -/
end
end L2

namespace L2
open PySem PySem.Spec PyProof.Rows

def MtM (X : Cx) (id : String) (r : V → List V → Hp → VK → Prop) : Prop :=
  ∀ (pins : List (Addr × Obj)) (s : Shared) (σ : St) (H : Hp) (x : V) (xs : List V) (v : Value) (us : List Value) (Q : VK), Inv X pins σ H s → RelV x v → Vals xs us → r x xs H Q →
    wpAny (model X.prog X.w) X.A (call (.builtin id) (v :: us)) (EP X pins σ Q) X.xe s

/-! ### lists of values -/
theorem Vals.one : ∀ {x : V} {us : List Value}, Vals [x] us → ∃ u, us = [u] ∧ RelV x u
  | _, _, .cons r .nil => ⟨_, rfl, r⟩
theorem Vals.zero : ∀ {us : List Value}, Vals [] us → us = []
  | _, .nil => rfl
theorem Vals.dropLast {xs : List V} {us : List Value} (h : Vals xs us) : Vals xs.dropLast us.dropLast := by
  induction h with
  | nil => exact .nil
  | cons r t ih =>
    cases t with
    | nil => exact .nil
    | cons q t' => exact .cons r ih
theorem Vals.rep {xs : List V} {us : List Value} (h : Vals xs us) : ∀ k : Nat, Vals (List.replicate k xs).flatten (List.replicate k us).flatten
  | 0 => .nil
  | k + 1 => by
    rw [List.replicate_succ, List.replicate_succ, List.flatten_cons, List.flatten_cons]
    exact Vals.append h (Vals.rep h k)
theorem erase_last {α : Type} (l : List α) : l.eraseIdx (l.length - 1) = l.dropLast := by
  induction l with
  | nil => rfl
  | cons a r ih =>
    cases r with
    | nil => rfl
    | cons b r =>
      have e : (a :: b :: r).length - 1 = ((b :: r).length - 1) + 1 := by
        have h1 : (a :: b :: r).length = r.length + 2 := rfl
        have h2 : (b :: r).length = r.length + 1 := rfl
        omega
      rw [e, List.eraseIdx_cons_succ, ih]
      all_goals rfl
theorem foldl_rep (its : List Value) : ∀ (k : Nat) (acc : List Value),
    List.foldl (fun x1 x2 => x1 ++ x2) acc.toArray (List.replicate k its.toArray) = (acc ++ (List.replicate k its).flatten).toArray
  | 0, acc => by simp
  | k + 1, acc => by
    have e : acc.toArray ++ its.toArray = (acc ++ its).toArray := by simp
    have e2 : (acc ++ its) ++ (List.replicate k its).flatten = acc ++ (List.replicate (k + 1) its).flatten := by
      rw [List.replicate_succ, List.flatten_cons, List.append_assoc]
    rw [← e2, ← foldl_rep its k (acc ++ its), ← e, List.replicate_succ, List.foldl_cons]

section
variable {X : Cx} {pins : List (Addr × Obj)} {σ : St} {H : Hp} {s : Shared} {l b : Addr} {xs ys zs : List V}

/-! ### the two steps: a tracked list is rewritten, a new list is laid -/
theorem Inv.lset {its its' : List Value} {n : Nat} {f : Array Value → Array Value} {t' : Nat} (I : Inv X pins σ H s) (hH : H l = some (.lst xs))
    (e : s.heap.get? l = some { cls := .type "list", data := .seq its.toArray n }) (hf : f its.toArray = its'.toArray) (hv : Vals ys its') (hz : ys.length ≤ sizeLine) :
    Inv X pins σ (upd H l (.lst ys)) { s with heap := s.heap.update l (Obj.mapSeq f), toks := t' } := by
  have q := PySem.IsL.update e f
  rw [hf] at q
  refine I.write (x := l) (e := l) (by rw [hH]; exact trivial) (.inl rfl) (fun b' u hb hu => (Heap.get?_update_other s.heap (Obj.mapSeq f) (Ne.symm hb)).trans hu) ⟨_, q⟩ ?_
  exact ⟨hz, its', _, hv, q⟩
theorem Inv.lnew {its : List Value} {t' : Nat} (I : Inv X pins σ H s) (hv : Vals ys its) (hz : ys.length ≤ sizeLine) :
    Inv X pins σ (upd H s.heap.objs.size (.lst ys)) { s with heap := s.heap.push { cls := .type "list", data := .seq its.toArray }, toks := t' } :=
  I.laid (fun _ _ q => Heap.get?_push_of_some _ q) (Nat.le_refl _) ⟨hz, its, 0, hv, Heap.get?_push_size _ rfl⟩
theorem Inv.fresh (I : Inv X pins σ H s) : H s.heap.objs.size = none := I.hok.fresh (Nat.le_refl _)
theorem Inv.lstM (I : Inv X pins σ H s) (hH : H l = some (.lst xs)) : xs.length ≤ sizeLine ∧ ∃ (its : List Value) (n : Nat), Vals xs its ∧ xs.length = its.length ∧ s.heap.get? l = some { cls := .type "list", data := .seq its.toArray n } := by
  obtain ⟨z, its, n, r, e⟩ := I.hok l _ hH
  exact ⟨z, its, n, r, r.length, e⟩

theorem notLongL {n : Nat} (h : n ≤ sizeLine) : Builtin.List.listTooLong n = false := by
  unfold Builtin.List.listTooLong
  exact decide_eq_false (by omega)
end

section
variable {X : Cx}

/-! ### methods -/
def rAppend : V → List V → Hp → VK → Prop := fun x vs H Q => ∃ l xs y, x = .ref l ∧ vs = [y] ∧ H l = some (.lst xs) ∧ xs.length < sizeLine ∧ Q .non (upd H l (.lst (xs ++ [y])))
theorem mt_append : MtM X "list.append" rAppend := by
  intro pins s σ H x vs v us Q I rx rv h
  obtain ⟨l, xs, y, rfl, rfl, hH, hz, q⟩ := h
  cases rx
  obtain ⟨u, rfl, ru⟩ := rv.one
  obtain ⟨z, its, n, r, hl, e⟩ := I.lstM hH
  refine call_meets F.slot_list_append ⟨_, e, rfl⟩ F.entry_list_append (F.args_list_append_2 _ _) (PySem.list_append l its.toArray n u (by rw [List.size_toArray]; omega)) ⟨e, ?_⟩
  refine ⟨.non, _, I.lset (its' := its ++ [u]) hH e (by simp) (r.append (.cons ru .nil)) ?_, rfl, q⟩
  rw [List.length_append, List.length_singleton]
  omega

def rPop : V → List V → Hp → VK → Prop := fun x vs H Q => ∃ l xs y, x = .ref l ∧ vs = [] ∧ H l = some (.lst xs) ∧ xs[xs.length - 1]? = some y ∧ Q y (upd H l (.lst xs.dropLast))
theorem mt_pop : MtM X "list.pop" rPop := by
  intro pins s σ H x vs v us Q I rx rv h
  obtain ⟨l, xs, y, rfl, rfl, hH, hy, q⟩ := h
  cases rx
  have hus := rv.zero
  subst hus
  obtain ⟨z, its, n, r, hl, e⟩ := I.lstM hH
  obtain ⟨u, hu, ru⟩ := r.get hy
  have hy' : its.toArray[its.toArray.size - 1]? = some u := by
    show its.toArray[its.length - 1]? = some u
    rw [← Array.getElem?_toList, ← hl]
    exact hu
  refine call_meets F.slot_list_pop ⟨_, e, rfl⟩ F.entry_list_pop (F.args_list_pop_1 _) (MeetsSeq.list_pop_last l its.toArray n u hy' (by rw [List.size_toArray]; omega)) ⟨e, ?_⟩
  refine ⟨y, _, I.lset (its' := its.dropLast) hH e ?_ r.dropLast ?_, ru, q⟩
  · show its.toArray.eraseIdxIfInBounds (its.toArray.size - 1) = its.dropLast.toArray
    rw [List.size_toArray, List.eraseIdxIfInBounds_toArray, erase_last]
  · rw [List.length_dropLast]
    omega

/-! ### list + list, list += list, list * int -/
def rCat : R2 := fun x y H Q => ∃ l b xs zs, x = .ref l ∧ y = .ref b ∧ H l = some (.lst xs) ∧ H b = some (.lst zs) ∧ xs.length + zs.length ≤ sizeLine ∧ ∀ p, H p = none → Q (.ref p) (upd H p (.lst (xs ++ zs)))
theorem op_cat : OpR X (binaryOp .Add) rCat := by
  intro pins s σ H x y v u Q I rx ry h
  obtain ⟨l, b, xs, zs, rfl, rfl, hH, hB, hz, q⟩ := h
  cases rx
  cases ry
  obtain ⟨z, its, n, r, hl, e⟩ := I.lstM hH
  obtain ⟨z2, its2, n2, r2, hl2, e2⟩ := I.lstM hB
  refine PySem.P.add_list e e2 ?_ (by rw [List.size_toArray, List.size_toArray]; omega)
  have ea : its.toArray ++ its2.toArray = (its ++ its2).toArray := by simp
  rw [ea]
  exact ⟨.ref _, _, I.lnew (t' := s.toks) (r.append r2) (by rw [List.length_append]; omega), rfl, q _ I.fresh⟩
/-- a list times an int (a negative one is nothing) -/
def rRep : R2 := fun x y H Q => ∃ l k xs, x = .ref l ∧ y = .int k ∧ H l = some (.lst xs) ∧ -(2 ^ 63) ≤ k ∧ k < 2 ^ 63 ∧ xs.length * k.toNat ≤ sizeLine ∧
  ∀ p, H p = none → Q (.ref p) (upd H p (.lst (List.replicate k.toNat xs).flatten))
theorem len_rep {α : Type} (xs : List α) (k : Nat) : (List.replicate k xs).flatten.length = k * xs.length := by
  induction k with
  | zero => simp
  | succ k ih => rw [List.replicate_succ, List.flatten_cons, List.length_append, ih, Nat.succ_mul, Nat.add_comm]
theorem op_rep : OpR X (binaryOp .Mult) rRep := by
  intro pins s σ H x y v u Q I rx ry h
  obtain ⟨l, k, xs, rfl, rfl, hH, h1, h2, hz, q⟩ := h
  cases rx
  obtain ⟨t, rfl⟩ := ry
  obtain ⟨z, its, n, r, hl, e⟩ := I.lstM hH
  have hlen : its.toArray.size * k.toNat ≤ sizeLine := by rw [List.size_toArray, ← hl]; exact hz
  have hcap : ¬ its.toArray.size * k.toNat > (2 ^ 63 - 1) / 8 := by
    have : (sizeLine : Nat) ≤ (2 ^ 63 - 1) / 8 := by decide
    omega
  have hfit : ¬ (!Builtin.List.listFitsIndex k) = true := by
    rw [fitsIndex_both h1 h2]
    exact Bool.false_ne_true
  have hlong : ¬ Builtin.List.listTooLong (its.toArray.size * k.toNat) = true := by
    rw [notLongL hlen]
    exact Bool.false_ne_true
  have hnew : List.foldl (fun x1 x2 => x1 ++ x2) #[] (List.replicate (if its.toArray.isEmpty = true then 0 else k.toNat) its.toArray) = (List.replicate k.toNat its).flatten.toArray := by
    have f0 : ∀ m : Nat, List.foldl (fun x1 x2 => x1 ++ x2) #[] (List.replicate m its.toArray) = (List.replicate m its).flatten.toArray := fun m => by
      have := foldl_rep its m []
      rw [List.nil_append] at this
      exact this
    rw [f0]
    cases its with
    | nil => simp
    | cons a r' => rw [if_neg (by simp)]
  refine wpAny_binaryOp_repeat_ref (T := "list") (U := "int") (by decide) ⟨_, e, rfl⟩ (fun s' => typeIs_int s' k t) noFill_list_mul F.fills_int_mul F.slot_int_rmul repeat_list F.slot_int_index.lookup
    (call_meets F.slot_int_rmul (typeIs_int s k t) F.entry_int_rmul (F.args_int_rmul_2 _ _) (int___rmul___int_list k t l its.toArray n)
      ⟨e, rfl, ⟨_, e, rfl⟩, call_meets F.slot_list_mul ⟨_, e, rfl⟩ F.entry_list_mul (F.args_list_mul_2 _ _) (AutoListH.list___mul___list_int_3 l its.toArray n k t hfit hcap hlong) ⟨e, ?_⟩⟩)
  rw [hnew]
  exact ⟨.ref _, _, I.lnew (t' := s.toks) (r.rep k.toNat) (by rw [len_rep, Nat.mul_comm]; exact hz), rfl, q _ I.fresh⟩

/-! ### del xs[i] -/
end

/-! ### xs[a:b] = ys -/
section
variable {prog : Program} {w : World} {A : Around} {E : Value → Shared → Prop} {s : Shared}
end

section
variable {X : Cx}
end
end L2

namespace Att
open PySem PySem.W PySem.Calls PyProof.Rows

/-! ### the script -/
theorem ints_of_wellAll {P : Params} {h : Heap} : ∀ (ns : List Int) (vs : List Value), WellAll P h vs (ns.map WData.int) → IntsAre vs ns := by
  intro ns
  induction ns with
  | nil =>
    intro vs w
    rw [List.map_nil] at w
    cases w
    exact .nil
  | cons n ns ih =>
    intro vs w
    rw [List.map_cons] at w
    cases w with
    | cons a b =>
      cases a
      exact .cons _ _ (ih _ b)

theorem script_of {l : OpenLaw} {n : Nat} (hn : l.most = some n) {P : Params} {h : Heap} {args : List WData} {vals : List Value}
    (hpre : l.row.toRowW.claim.pre args = true) (hwl : WellAll P h vals args) :
    ∃ a vs ns, vals = [Value.ref a] ∧ args = [WData.list (ns.map WData.int)] ∧ h.get? a = some { cls := .type "list", data := .seq vs.toArray } ∧ IntsAre vs ns ∧ ns.length ≤ n := by
  have hsh : WShape.hasAll [] args [.list .int] = true := (pre_splitW hpre).1
  have hc : l.pre.holds [] { args := args } = true := (pre_splitW hpre).2
  obtain ⟨d, r, rfl, h1, h2⟩ := hasAllW_cons hsh
  obtain rfl := hasAllW_nil h2
  obtain ⟨xs, rfl, h3⟩ := hasW_list h1
  obtain ⟨ns, rfl⟩ := items_int h3
  have hlen : ns.length ≤ n := by
    unfold OpenLaw.pre at hc
    have h4 : (WTm.not (.lt (.lit (.int (n : Int))) (.len (.arg 0)))).holds [] { args := [.list (ns.map .int)] } = true := by
      have h4 := (holds_andW hc).1
      rw [hn] at h4
      exact h4
    have h5 := condW_of h4 (w_not (w_lt w_lit (w_len_list (w_arg rfl))))
    rw [List.length_map] at h5
    refine Nat.le_of_not_lt fun q => ?_
    have q' : (n : Int) < ((ns.length : Nat) : Int) := by omega
    first
      | (rw [decide_eq_true q'] at h5; exact absurd h5 (by decide))
      | (simp at h5; omega)
  cases hwl with
  | cons w1 w2 =>
    cases w2
    cases w1 with
    | list ho hall => exact ⟨_, _, ns, rfl, rfl, ho, ints_of_wellAll ns _ hall, hlen⟩

theorem post_true (l : OpenLaw) (args : List WData) : l.row.toRowW.claim.post args (.bool true) args = true :=
  postW_of (r := l.row.toRowW) (X := (true == true))
    (show WShape.has [] (.bool true) .bool = true by first | rfl | decide | simp [WShape.has, WShape.arms, WShape.armsAll])
    (show (WTm.eq .res (.lit (.bool true))).value [] { args := args, res := some (.bool true), after := args } = some (.bool (true == true)) from w_eq_bool (w_res rfl) w_lit) rfl

/-! ### the attachment: holds_open's last premise (the goal 'hc' behind k_head) from a wpAny of the law's body -/
/-- the same from a codeAny of the CALL (for a layer whose function contracts speak of calls) -/
theorem attach_call {l : OpenLaw} {n : Nat} {q : Program} {loose : List Str} {XP : (Str → Option Value) → Heap → Prop} {YP : World → Heap → Prop} {d : DefRec}
    (hn : l.most = some n) (hdf : d.params.defaults = [])
    (call : ∀ (w : World) (s₀ s₁ : Shared) (mg mb : Str → Option Value) (fa : Addr) (o : Obj) (pm cd doc : Value) (a : Addr) (vs : List Value) (ns : List Int),
      Ground q loose [] XP w s₀ mg mb s₁.heap → YP w s₁.heap →
      s₁.heap.get? fa = some o → o.data = .func (docDef d.name d.params d.body d.scope pm cd doc) → s₁.heap.CodeRec cd d.name → mg d.name = some (.ref fa) →
      s₁.heap.get? a = some { cls := .type "list", data := .seq vs.toArray } → IntsAre vs ns → ns.length ≤ n → s₁.gens = #[] →
      codeAny (model l.prog w) callerA (.call (.ref fa) ⟨[.ref a], []⟩) (fun r s' => r = .ok (.ret (.bool true)) ∧ OldK s₁.heap s'.heap ∧ s'.os = s₁.os ∧ AllBare s'.gens) s₁) :
    WalkO q loose XP YP l.row.toRowW d [] (fun f vs => PySem.call f vs) := by
  intro w s₀ s₁ mg mb G Y fa o pm cd doc dV kV ho hd hcd hD hmg hg args vals as hpre hlay hrd hwl hlo
  obtain rfl : dV = .none := Dflts.none hD hdf
  obtain rfl : kV = .none := Dflts.noKw hD
  obtain ⟨a, vs, ns, rfl, rfl, hobj, hints, hlen⟩ := script_of hn hpre hwl
  refine enter_call (codeAny_mono (call w s₀ s₁ mg mb fa o pm cd doc a vs ns G Y ho (fd_plain hd) hcd hmg hobj hints hlen hg) fun r s' hq => ?_)
  obtain ⟨rfl, h2, h3, h4⟩ := hq
  exact ⟨.inl ⟨.bool true, .bool true, [], rfl, fun _ => rfl, .bool true, post_true l _, fun _ => ⟨List.Pairwise.nil, fun _ hm => (nomatch hm)⟩⟩, h2, h3, h4⟩

/-! ### rules over ANY heap (no ledger) from facts about the written part K: the library's own take a ledger (News) for what they write -/
section
variable {prog : Program} {w : World} {A : Around} {E : Value → Shared → Prop} {s : Shared} {K : Frag}

/-! the whole heap as the ledger: makes every rule that writes through a ledger a rule over any heap -/
def ledger (h : Heap) (L d : Addr) : List (Addr × Obj) := (List.range h.objs.size).filterMap fun a => if a = L ∨ a = d then none else (h.get? a).map fun o => (a, o)
end
end Att

namespace L2
open PySem PySem.Spec PyProof.Rows

theorem vals_ints : ∀ {vs : List Value} {ns : List Int}, IntsAre vs ns → Vals (ns.map V.int) vs
  | _, _, .nil => .nil
  | _, _, .cons n t h => .cons ⟨t, rfl⟩ (vals_ints h)

/-- nothing is tracked but the script, known to the object (or it is an object of the module) -/
def Only (H : Hp) : Prop := ∀ b, H b = none ∨ ∃ o xs, H b = some (.frz o (.lst xs))

/-- THE HEAD: the law's promise, at the heap behind the top. F, the promise of the law's def, may use that base is part of the heap (so K.In base, base.Ns mainGlobals mg stand in Mod) -/
theorem law_call {P : Program} {w : World} {K : PySem.W.Frag} {mg mb : Str → Option Value} {CX : CXT} {k : Nat} {fa a : Addr} {fd : FuncData} {x : Str} {sp : Sp} {s₁ : Shared} {vs : List Value} {ns : List Int}
    (KX : K.In s₁.heap) (hns : s₁.heap.Ns mainGlobals mg) (hb : s₁.heap.Ns builtinsNs mb) (hbb : ∀ x : Str, x ≠ "__name__" → mb x = bootBuiltins x) (hlim : s₁.heap.NoLimit) (hg : s₁.gens = #[])
    (ha : s₁.heap.get? a = some { cls := .type "list", data := .seq vs.toArray }) (hi : IntsAre vs ns) (hl : ns.length ≤ sizeLine) (hr : Room k callerA)
    (F : ∀ base : Heap, K.In base → base.Ns mainGlobals mg → FnOk P w K mg base CX k fa fd [x] sp) (hbind : ∀ (s : Shared) (u : Value), BindsTo s fd ⟨[u], []⟩ [(x, u)])
    (hsp : ∀ H : Hp, Only H → SqL K H a (ns.map V.int) → sp [.ref a] H (fun v _ => v = .bl true) fun _ _ _ => False)
    (hCX : ∀ H e s', CX [] H s₁ (fun _ _ _ => False) e s' → False) :
    codeAny (model P w) callerA (.call (.ref fa) ⟨[.ref a], []⟩) (fun r s' => r = .ok (.ret (.bool true)) ∧ OldK s₁.heap s'.heap ∧ s'.os = s₁.os ∧ AllBare s'.gens) s₁ := by
  have rv := vals_ints hi
  have lenV := hi.length
  -- from an abstract heap in which nothing but the script may be tracked
  have core : ∀ H : Hp, Only H → SqL K H a (ns.map V.int) → HOk P w H s₁.heap → (∀ b, H b ≠ none → b = a) → (H a ≠ none → K.lookup a = none) →
      codeAny (model P w) callerA (.call (.ref fa) ⟨[.ref a], []⟩) (fun r s' => r = .ok (.ret (.bool true)) ∧ OldK s₁.heap s'.heap ∧ s'.os = s₁.os ∧ AllBare s'.gens) s₁ := by
    intro H hO hS hok hA hK
    have base_of : ∀ {b : Addr} {o : Obj}, s₁.heap.get? b = some o → H b = none → (hidT s₁.heap H).get? b = some o := fun e n => hidT_get e n
    have noA : ∀ {b : Addr} {o : Obj} {es : Array DictEntry} {ep : Nat}, s₁.heap.get? b = some o → o.data = .dict es ep → H b = none := fun {b o es ep} e d => by
      cases q : H b with
      | none => rfl
      | some u =>
        have e' : b = a := hA b (by rw [q]; simp)
        subst e'
        rw [ha] at e; cases e
        have d' : Data.seq vs.toArray _ = Data.dict es ep := d
        cases d'
    have nsK : ∀ {b : Addr} {m : Str → Option Value}, s₁.heap.Ns b m → (hidT s₁.heap H).Ns b m := fun {b m} ⟨o, es, ep, e, d, r⟩ => ⟨o, es, ep, base_of e (noA e d), d, r⟩
    have hKb : K.In (hidT s₁.heap H) := fun b o e => base_of (KX b o e) (by
      cases q : H b with
      | none => rfl
      | some u =>
        have e' : b = a := hA b (by rw [q]; simp)
        subst e'
        rw [hK (by rw [q]; simp)] at e; cases e)
    have hM : Mod K mg (hidT s₁.heap H) := ⟨hKb, nsK hns, ⟨mb, nsK hb, hbb⟩, let ⟨mc, h1, h2⟩ := hlim; ⟨mc, nsK h1, h2⟩⟩
    have e0 : Env0 P w K mg (hidT s₁.heap H) callerA [] s₁ H := ⟨rfl, hM, fun b o e => of_hidT e, Nat.le_of_eq (hidT_size _ _), trivial, fun b hb => absurd (show b ∈ ([] : List Addr) from hb) (by simp), hok, .of_eq hg⟩
    refine codeAny_mono ((F _ hKb (nsK hns)).run callerA [] s₁ H ⟨[.ref a], []⟩ [.ref a] [.ref a] _ _ hr e0 (hbind s₁ (.ref a)) (.cons rfl .nil) (hsp H hO hS)) fun r s' h => ?_
    cases r with
    | error e => exact (hCX H e s' h).elim
    | ok fl =>
      cases fl with
      | next => exact False.elim h
      | brk => exact False.elim h
      | cont => exact False.elim h
      | ret u =>
        obtain ⟨v, H', os, bare, un, hok', r', q⟩ := h
        have q' : v = .bl true := q
        subst q'
        obtain rfl : u = Value.bool true := r'
        refine ⟨rfl, OldK.of_keep fun b o e => ?_, os, bare⟩
        cases q : H b with
        | none => exact un.keep b o e q (by intro z; exact absurd (show b ∈ ([] : List Addr) from z) (by simp)) (by simp)
        | some u =>
          rcases hO b with z | ⟨ob, xs, z⟩
          · rw [q] at z; cases z
          · have z2 := un.frzs b ob _ z
            obtain ⟨e1, _⟩ := hok b _ z
            obtain ⟨e2, _⟩ := hok' b _ z2
            rw [e] at e1; cases e1
            exact e2
  cases hk : K.lookup a with
  | some o =>
    -- the script is one of the module's own objects
    have e := KX a o hk
    rw [ha] at e
    cases e
    refine core (fun _ => none) (fun _ => .inl rfl) (.inr ⟨_, vs.toArray, _, hk, rfl, rfl, rfl, by rw [List.size_toArray, lenV]; exact hl, by simpa using rv⟩) (fun b u z => by have z' : (none : Option HO) = some u := z; cases z') (fun b z => absurd rfl z) fun z => absurd rfl z
  | none =>
    refine core (fun b => if b = a then some (.frz { cls := .type "list", data := .seq vs.toArray } (.lst (ns.map V.int))) else none) (fun b => ?_) (.inl (.inr ⟨{ cls := .type "list", data := .seq vs.toArray }, if_pos rfl⟩)) (fun b u z => ?_) (fun b z => ?_) fun _ => hk
    · by_cases hb : b = a
      · exact .inr ⟨_, _, if_pos hb⟩
      · exact .inl (if_neg hb)
    · by_cases hb : b = a
      · have z' := (if_pos hb).symm.trans z
        cases z'
        subst hb
        exact ⟨ha, by rw [List.length_map]; exact hl, vs, _, rv, ha⟩
      · have z' := (if_neg hb).symm.trans z
        cases z'
    · by_cases hb : b = a
      · exact hb
      · exact absurd (if_neg hb) z
end L2

namespace L2
open PySem PySem.Spec PyProof.Rows

abbrev KOf {K : PySem.W.Frag} {h : Heap} (_ : K.In h) : PySem.W.Frag := K

/-- the goal that k_head leaves (case hc), from the law's promise. F gives the function object fd (K's own) once, then the promise over every base -/
theorem walk_of {l : PySem.W.OpenLaw} {n k : Nat} {q : Program} {loose : List Str} {XP : (Str → Option Value) → Heap → Prop} {YP : World → Heap → Prop} {d : DefRec} {K : Params → PySem.W.Frag} {CX : World → CXT} {sp : World → Sp} {x : Str}
    (hn : l.most = some n) (hn2 : n ≤ sizeLine) (hdf : d.params.defaults = []) (hr : Room k callerA)
    (hY : ∀ (w : World) (h : Heap), YP w h → (K w.params).In h)
    (F : ∀ (w : World) (mg : Str → Option Value) (fa : Addr) (h : Heap), (K w.params).In h → h.Ns mainGlobals mg → mg d.name = some (.ref fa) →
      ∃ fd : FuncData, (∀ (s : Shared) (u : Value), BindsTo s fd ⟨[u], []⟩ [(x, u)]) ∧
        ∀ base : Heap, (K w.params).In base → base.Ns mainGlobals mg → FnOk l.prog w (K w.params) mg base (CX w) k fa fd [x] (sp w))
    (hsp : ∀ (w : World) (H : Hp) (a : Addr) (ns : List Int), ns.length ≤ n → Only H → SqL (K w.params) H a (ns.map V.int) → sp w [.ref a] H (fun v _ => v = .bl true) fun _ _ _ => False)
    (hCX : ∀ (w : World) (H : Hp) (s : Shared) (e : Value) (s' : Shared), CX w [] H s (fun _ _ _ => False) e s' → False) :
    PySem.W.WalkO q loose XP YP l.row.toRowW d [] (fun f vs => PySem.call f vs) := by
  refine Att.attach_call hn hdf fun w s₀ s₁ mg mb fa o pm cd doc a vs ns G Y ho hd hcd hmg hobj hints hlen hg => ?_
  have KX := hY w _ Y
  obtain ⟨fd, hb, hF⟩ := F w mg fa _ KX G.T.g hmg
  exact law_call KX G.T.g G.T.b G.T.builtins G.T.nolimit hg hobj hints (Nat.le_trans hlen hn2) hr hF hb (fun H hO hS => hsp w H a ns hlen hO hS) fun H e s' => hCX w H s₁ e s'
end L2

/- THE LAST THEOREM (shape; LID, My.* are yours):
   My.Adr: a structure of the addresses that your layer names (classes, functions); My.Txt K t: a structure (Prop) of the equations over K;
   My.txt_mk : {K} {implicit addresses ..} (e1 : nsIn K mainGlobals "law" = some (some (.ref f))) (e2 : K.lookup f = some ⟨oc, od, .func (fnOf "law" "law" params body scope dV kV doc pm an cdv ct), sl⟩) (e3 : codeIn K cdv "law" = true) .. : ∃ t, My.Txt K t

set_option maxRecDepth 100000 in
set_option maxHeartbeats 0 in
theorem PySem.Challenge.cw_LID_holds : PySem.Challenge.rw_LID.Holds := by
  w_on; o_law; k_head; (case hw => w_witness2)
  k_fill
  refine L2.walk_of (l := PySem.Challenge.rw_LID) (n := 63) (k := 40) (x := "script") (CX := fun w => ..) (sp := fun _ => My.sp_law) rfl (by decide) rfl ⟨rfl, by decide, by decide⟩ (fun w h Y => PySem.W.kIn_of Y) ?F ?S ?C
  case F =>
    intro w mg fa h KX G hmg
    have T : ∃ t, My.Txt (L2.KOf KX) t := by
      dsimp only [L2.KOf]                          -- K must stand as «<heap const> w.params» for k_is
      refine' My.txt_mk ?e1 ?e2 ?e3 ..
      (case e1 => PySem.W.k_is)                    -- in the order: a name -> its address -> its object -> its parts
      (case e2 => PySem.W.k_is)
      ..
    obtain ⟨t, T⟩ := T
    have e0 := hmg.symm.trans (PySem.W.mg_of KX G T.law)
    cases e0                                       -- fa is the law's own address
    exact ⟨_, fun s u => .of_eq rfl, fun base kb nb => My.law_fn T kb nb⟩     -- if «.of_eq rfl» comes too early: refine' ⟨_, ?b, fun base kb nb => My.law_fn T kb nb⟩; exact fun s u => .of_eq rfl
  case S => exact fun w H a ns hl hO hS => ..
  case C => exact ..
(the tactic k_is has no namespace: write k_is) -/

/-! SHORT WORDS over the layer: a def of the text, its body, what a loop and a test want. -/
namespace L2
open PySem PySem.Spec PyProof.Rows

/-! ### the text by places -/
def defArgs (s : Stmt) : Arguments := match s with
  | .FunctionDef _ a _ _ _ _ _ _ _ _ => a
  | _ => { posonlyargs := [], args := [], vararg := none, kwonlyargs := [], kw_defaults := [], kwarg := none, defaults := [] }
def defBody (s : Stmt) : List Stmt := match s with
  | .FunctionDef _ _ b _ _ _ _ _ _ _ => b
  | _ => []
def defScope (s : Stmt) : Scope := match s with
  | .FunctionDef _ _ _ _ _ _ sc _ _ _ => sc
  | _ => { kind := .function, names := [], isGenerator := false, isCoroutine := false }

/-! ### no exception leaves a def -/
abbrev CX0 : CXT := fun _ _ _ _ _ _ => False
abbrev E0 : XK := fun _ _ _ => False
/-! ### a def (or method) of the text as it stands behind the top -/
structure Fun (K : PySem.W.Frag) (x qual : Str) (st : Stmt) (f : Addr) (fd : FuncData) : Prop where
  ex : ∃ (oc : Value) (od : Option Addr) (kV doc pm : Value) (an : Option Addr) (cdv ct : Value) (osl : Array (Option Value)),
    fd = PySem.W.fnOf x qual (defArgs st) (defBody st) (defScope st) .none kV doc pm an cdv ct ∧ K.lookup f = some ⟨oc, od, .func fd, osl⟩ ∧ PySem.W.codeIn K cdv qual = true
  kp : PySem.W.keepIn K (.ref f) = true
section
variable {P : Program} {w : World} {K : PySem.W.Frag} {mg : Str → Option Value} {base : Heap}
/-- how its arguments bind (no defaults): h is «fun _ _ _ _ _ _ us hl => match us, hl with | [_, _], _ => rfl», one _ a parameter -/
theorem Fun.binds {x qual : Str} {st : Stmt} {f : Addr} {fd : FuncData} {ps : List Str} (F : Fun K x qual st f fd)
    (h : ∀ (kV doc pm : Value) (an : Option Addr) (cdv ct : Value) (us : List Value), us.length = ps.length → bindArgs (PySem.W.fnOf x qual (defArgs st) (defBody st) (defScope st) .none kV doc pm an cdv ct) ⟨us, []⟩ = pure (ps.zip us)) : Binds K fd ps [] := by
  obtain ⟨oc, od, kV, doc, pm, an, cdv, ct, osl, rfl, lk, hcd⟩ := F.ex
  exact .all (h kV doc pm an cdv ct)
theorem fun_mk {x qual : Str} {st : Stmt} {f : Addr} {oc : Value} {od an : Option Addr} {osl : Array (Option Value)} {kV doc pm cdv ct : Value} (l : K.lookup f = some ⟨oc, od, .func (PySem.W.fnOf x qual (defArgs st) (defBody st) (defScope st) .none kV doc pm an cdv ct), osl⟩)
    (c : PySem.W.codeIn K cdv qual = true) (k : PySem.W.keepIn K (.ref f) = true) : Fun K x qual st f (PySem.W.fnOf x qual (defArgs st) (defBody st) (defScope st) .none kV doc pm an cdv ct) := ⟨⟨oc, od, kV, doc, pm, an, cdv, ct, osl, rfl, l, c⟩, k⟩
end
/-! ### expressions in short: the name that stands in the i-th slot -/
section
variable {X : Cx}
end

/-! ### tests -/
theorem iteF {A B : Prop} (h : B) : if false = true then A else B := by
  rw [if_neg Bool.false_ne_true]
  exact h
theorem iteT {A B : Prop} (h : A) : if true = true then A else B := by
  rw [if_pos rfl]
  exact h
/-! ### heaps -/
/-- all that was tracked is as it was -/
def Same (H H' : Hp) : Prop := ∀ b o, H b = some o → H' b = some o
theorem Same.refl (H : Hp) : Same H H := fun _ _ h => h
theorem Same.trans {H H1 H2 : Hp} (a : Same H H1) (b : Same H1 H2) : Same H H2 := fun c o h => b c o (a c o h)
theorem Same.free {H H' : Hp} (e : Same H H') {l : Addr} (h : H' l = Option.none) : H l = Option.none := by
  cases q : H l with
  | none => rfl
  | some o =>
    rw [e l o q] at h
    cases h
theorem Same.seq {K : PySem.W.Frag} {H H' : Hp} {a : Addr} {xs : List V} (e : Same H H') (h : SqL K H a xs) : SqL K H' a xs := by
  rcases h with (h | ⟨o, h⟩) | h
  · exact .inl (.inl (e _ _ h))
  · exact .inl (.inr ⟨o, e _ _ h⟩)
  · exact .inr h

end L2
set_option Elab.async false
set_option linter.all false
set_option maxRecDepth 100000
set_option maxHeartbeats 4000000
namespace NB
theorem gcd_fmod (a b : Int) : Int.gcd b (a.fmod b) = Int.gcd a b := by
  rw [Int.fmod_def, Int.gcd_comm]
  have : a - b * a.fdiv b = a + b * (-(a.fdiv b)) := by rw [Int.mul_neg]; omega
  rw [this, Int.gcd_comm, Int.gcd_add_mul_left_right, Int.gcd_comm]
theorem fmod_lt (a b : Int) (h : b ≠ 0) : (a.fmod b).natAbs < b.natAbs := by
  rcases Int.lt_or_gt_of_ne h with hb | hb
  · have e : (-(-a)).fmod (-(-b)) = -((-a).fmod (-b)) := by
      rw [Int.neg_fmod_neg]
    rw [Int.neg_neg, Int.neg_neg] at e
    have h1 := Int.fmod_nonneg_of_pos (-a) (b := -b) (by omega)
    have h2 := Int.fmod_lt_of_pos (-a) (b := -b) (by omega)
    omega
  · have h1 := Int.fmod_nonneg_of_pos a hb
    have h2 := Int.fmod_lt_of_pos a hb
    omega
theorem fdiv_exact {a d q : Int} (hd : d ≠ 0) (h : a = d * q) : a.fdiv d = q := by
  subst h
  rw [Int.mul_fdiv_cancel_left _ hd]
theorem num_low (t b : Int) (hb : b ≠ 0) (d : Int) (hd : d = if b < 0 then -(Int.gcd t b : Int) else (Int.gcd t b : Int)) :
    d ≠ 0 ∧ t.fdiv d = (Rat.divInt t b).num ∧ b.fdiv d = ((Rat.divInt t b).den : Int) := by
  have g0 : (Int.gcd t b : Int) ≠ 0 := by
    intro z
    have : Int.gcd t b = 0 := by omega
    rw [Int.gcd_eq_zero_iff] at this
    exact hb this.2
  have gp : 0 < (Int.gcd t b : Int) := by omega
  have h1 := Int.gcd_dvd_left t b
  have h2 := Int.gcd_dvd_right t b
  obtain ⟨x, hx⟩ := h1
  obtain ⟨y, hy⟩ := h2
  have hd0 : d ≠ 0 := by subst hd; split <;> omega
  refine ⟨hd0, ?_, ?_⟩
  · rw [Rat.num_divInt, Int.gcd_comm b t]
    by_cases hn : b < 0
    · rw [if_pos hn] at hd
      rw [Int.sign_eq_neg_one_of_neg hn]
      refine fdiv_exact hd0 ?_
      have e : -1 * t / (Int.gcd t b : Int) = -x := by
        have : -1 * t = (Int.gcd t b : Int) * (-x) := by rw [Int.mul_neg, ← hx]; omega
        rw [this, Int.mul_ediv_cancel_left _ g0]
      rw [e, hd, Int.neg_mul_neg]; exact hx
    · rw [if_neg hn] at hd
      rw [Int.sign_eq_one_of_pos (by omega)]
      refine fdiv_exact hd0 ?_
      have e : 1 * t / (Int.gcd t b : Int) = x := by
        have : 1 * t = (Int.gcd t b : Int) * x := by rw [← hx]; omega
        rw [this, Int.mul_ediv_cancel_left _ g0]
      rw [e, hd]; exact hx
  · rw [Rat.den_divInt, if_neg hb, Int.gcd_comm b t]
    refine fdiv_exact hd0 ?_
    have hyn : b.natAbs = Int.gcd t b * y.natAbs := by
      conv => lhs; rw [hy]
      rw [Int.natAbs_mul]; simp
    have e : b.natAbs / Int.gcd t b = y.natAbs := by
      rw [hyn, Nat.mul_div_cancel_left _ (by omega)]
    rw [e]
    by_cases hn : b < 0
    · rw [if_pos hn] at hd
      have : y < 0 := by
        rcases Int.lt_or_le y 0 with q | q
        · exact q
        · have := Int.mul_nonneg (Int.le_of_lt gp) q
          omega
      have e2 : (y.natAbs : Int) = -y := by omega
      rw [e2, hd, Int.neg_mul_neg]; exact hy
    · rw [if_neg hn] at hd
      have : 0 ≤ y := by
        rcases Int.lt_or_le y 0 with q | q
        · have := Int.mul_neg_of_pos_of_neg gp q
          omega
        · exact q
      have e2 : (y.natAbs : Int) = y := by omega
      rw [e2, hd]; exact hy
theorem plus_eq (a b : Rat) : Rat.divInt (a.num * b.den + b.num * a.den) ((a.den : Int) * b.den) = a + b := by
  rw [Rat.add_def', ← Rat.divInt_ofNat]; simp
theorem times_eq (a b : Rat) : Rat.divInt (a.num * b.num) ((a.den : Int) * b.den) = a * b := by
  rw [Rat.mul_def', ← Rat.divInt_ofNat]; simp
end NB
namespace NB
def Sz (n : Nat) (q : Rat) : Prop := q.num.natAbs < 2 ^ n ∧ q.den < 2 ^ n
theorem Sz.mono {m n : Nat} {q : Rat} (h : Sz m q) (hmn : m ≤ n) : Sz n q :=
  ⟨Nat.lt_of_lt_of_le h.1 (Nat.pow_le_pow_right (by decide) hmn), Nat.lt_of_lt_of_le h.2 (Nat.pow_le_pow_right (by decide) hmn)⟩
theorem natAbs_ediv_le (a : Int) (g : Nat) : (a / (g : Int)).natAbs ≤ a.natAbs := by
  rcases Nat.eq_zero_or_pos g with h | h
  · subst h; simp
  · have := Int.natAbs_ediv_le_natAbs a (g : Int); exact this
theorem Sz.divInt {n : Nat} {t b : Int} (hb : b ≠ 0) (h1 : t.natAbs < 2 ^ n) (h2 : b.natAbs < 2 ^ n) : Sz n (Rat.divInt t b) := by
  refine ⟨?_, ?_⟩
  · rw [Rat.num_divInt]
    refine Nat.lt_of_le_of_lt ?_ h1
    by_cases hdv : (b.sign * t).natAbs = t.natAbs
    · exact hdv ▸ natAbs_ediv_le _ _
    · exfalso; apply hdv
      rw [Int.natAbs_mul]
      rcases Int.lt_or_gt_of_ne hb with h | h
      · rw [Int.sign_eq_neg_one_of_neg h]; simp
      · rw [Int.sign_eq_one_of_pos h]; simp
  · rw [Rat.den_divInt, if_neg hb]
    exact Nat.lt_of_le_of_lt (Nat.div_le_self _ _) h2
theorem mul_lt {a b m n : Nat} (h1 : a < 2 ^ m) (h2 : b < 2 ^ n) : a * b < 2 ^ (m + n) := by
  rw [Nat.pow_add]
  exact Nat.mul_lt_mul'' h1 h2
theorem Sz.mul {m n : Nat} {p q : Rat} (hp : Sz m p) (hq : Sz n q) : Sz (m + n) (p * q) := by
  rw [Rat.mul_def', ← Rat.divInt_ofNat]
  refine Sz.divInt ?_ ?_ ?_
  · have := p.den_nz; have := q.den_nz
    have h := Nat.mul_ne_zero p.den_nz q.den_nz
    omega
  · rw [Int.natAbs_mul]; exact mul_lt hp.1 hq.1
  · rw [Int.natAbs_natCast]; exact mul_lt hp.2 hq.2
theorem Sz.zero {n : Nat} (h : 0 < n) : Sz n 0 := ⟨by simp; exact Nat.two_pow_pos n, by simp; omega⟩
end NB
/-! OWN RULES over the layer: data, sizes, calls, isinstance, == of data. -/
namespace L3
open PySem PySem.Spec PyProof.Rows L2

/-! ### arithmetic of any size that comes -/
section
variable {X : Cx}
theorem op_mulW : OpR X (binaryOp .Mult) (rI IntMulOk fun i j => .int (i * j)) := opI fun _ _ _ _ _ _ _ hc q => mul_int q hc
theorem op_fdivW : OpR X (binaryOp .FloorDiv) (rI (fun _ j => j ≠ 0 ∧ j.natAbs < 2 ^ 9000) fun i j => .int (i.fdiv j)) :=
  opI fun _ j _ _ _ _ _ hc q => floordiv_int hc.1 q (.inl (PyProof.noPylong_of_log2 (by
    have h0 : j.natAbs ≠ 0 := by have := hc.1; omega
    exact (Nat.log2_lt h0).mpr hc.2)))
end
theorem mulOk {a b : Int} {m n : Nat} (ha : a.natAbs < 2 ^ m) (hb : b.natAbs < 2 ^ n) (h : m + n ≤ 1000000) : IntMulOk a b :=
  IntMulOk.of_le (intBits_le_iff.mpr ha) (intBits_le_iff.mpr hb) (by omega)

/-! ### data -/
mutual
inductive DV (K : PySem.W.Frag) (H : Hp) : V → PyData → Prop
  | non : DV K H .non .none
  | bl (b : Bool) : DV K H (.bl b) (.bool b)
  | int (i : Int) : DV K H (.int i) (.int i)
  | str (x : Str) : DV K H (.str x) (.str x)
  | tup {a : Addr} {xs : List V} {ds : List PyData} : SqT K H a xs → DVs K H xs ds → DV K H (.ref a) (.tuple ds)
  | lst {a : Addr} {xs : List V} {ds : List PyData} : SqL K H a xs → DVs K H xs ds → DV K H (.ref a) (.list ds)
inductive DVs (K : PySem.W.Frag) (H : Hp) : List V → List PyData → Prop
  | nil : DVs K H [] []
  | cons {v : V} {vs : List V} {d : PyData} {ds : List PyData} : DV K H v d → DVs K H vs ds → DVs K H (v :: vs) (d :: ds)
end
/-- tuples stay -/
def TK (H H' : Hp) : Prop := (∀ a xs, H a = some (.tup xs) → H' a = some (.tup xs)) ∧ ∀ a o u, H a = some (.frz o u) → H' a = some (.frz o u)
theorem TK.of {H H' : Hp} (s : Same H H') : TK H H' := ⟨fun a _ h => s a _ h, fun a _ _ h => s a _ h⟩
theorem same_new {H : Hp} {p : Addr} (h : H p = none) (o : HO) : Same H (upd H p o) := fun b u q => by rw [upd_ne (ne_of_none q h)]; exact q
theorem TK.tup {K : PySem.W.Frag} {H H' : Hp} {a : Addr} {xs : List V} (e : TK H H') (h : SqT K H a xs) : SqT K H' a xs := by
  rcases h with (h | ⟨o, h⟩) | h
  · exact .inl (.inl (e.1 _ _ h))
  · exact .inl (.inr ⟨o, e.2 _ _ _ h⟩)
  · exact .inr h
theorem SameT {K : PySem.W.Frag} {H H' : Hp} {a : Addr} {xs : List V} (e : Same H H') (h : SqT K H a xs) : SqT K H' a xs := (TK.of e).tup h
mutual
/-- no list within -/
def noL : PyData → Bool
  | .list _ => false
  | .tuple ds => noLs ds
  | _ => true
def noLs : List PyData → Bool
  | [] => true
  | d :: ds => noL d && noLs ds
end
theorem DV.same {K : PySem.W.Frag} {H H' : Hp} (e : Same H H') {v : V} {d : PyData} (h : DV K H v d) : DV K H' v d :=
  DV.rec (motive_1 := fun v d _ => DV K H' v d) (motive_2 := fun vs ds _ => DVs K H' vs ds) .non .bl .int .str (fun h _ r => .tup (SameT e h) r) (fun h _ r => .lst (e.seq h) r) .nil (fun _ _ a b => .cons a b) h
theorem DVs.same {K : PySem.W.Frag} {H H' : Hp} (e : Same H H') {vs : List V} {ds : List PyData} (h : DVs K H vs ds) : DVs K H' vs ds :=
  DVs.rec (motive_1 := fun v d _ => DV K H' v d) (motive_2 := fun vs ds _ => DVs K H' vs ds) .non .bl .int .str (fun h _ r => .tup (SameT e h) r) (fun h _ r => .lst (e.seq h) r) .nil (fun _ _ a b => .cons a b) h
theorem DV.ts {K : PySem.W.Frag} {H H' : Hp} (e : TK H H') {v : V} {d : PyData} (h : DV K H v d) : noL d = true → DV K H' v d :=
  DV.rec (motive_1 := fun v d _ => noL d = true → DV K H' v d) (motive_2 := fun vs ds _ => noLs ds = true → DVs K H' vs ds) (fun _ => .non) (fun b _ => .bl b) (fun i _ => .int i) (fun x _ => .str x) (fun h _ r n => .tup (e.tup h) (r n)) (fun _ _ _ n => nomatch n) (fun _ => .nil) (fun _ _ a b n => have m := Bool.and_eq_true_iff.mp n; .cons (a m.1) (b m.2)) h
theorem DVs.ts {K : PySem.W.Frag} {H H' : Hp} (e : TK H H') {vs : List V} {ds : List PyData} (h : DVs K H vs ds) : noLs ds = true → DVs K H' vs ds :=
  DVs.rec (motive_1 := fun v d _ => noL d = true → DV K H' v d) (motive_2 := fun vs ds _ => noLs ds = true → DVs K H' vs ds) (fun _ => .non) (fun b _ => .bl b) (fun i _ => .int i) (fun x _ => .str x) (fun h _ r n => .tup (e.tup h) (r n)) (fun _ _ _ n => nomatch n) (fun _ => .nil) (fun _ _ a b n => have m := Bool.and_eq_true_iff.mp n; .cons (a m.1) (b m.2)) h
section
variable {X : Cx} {pins : List (Addr × Obj)} {σ : L2.St} {H : Hp} {s : Shared}
theorem DV.reads (I : Inv X pins σ H s) {v : V} {d : PyData} (h : DV X.K H v d) : ∀ {u : Value}, RelV v u → ∃ as, Reads s.heap u d as := by
  refine DV.rec (motive_1 := fun v d _ => ∀ {u : Value}, RelV v u → ∃ as, Reads s.heap u d as) (motive_2 := fun vs ds _ => ∀ {us : List Value}, Vals vs us → ∃ as, ReadsAll s.heap us ds as) ?_ ?_ ?_ ?_ ?_ ?_ ?_ ?_ h
  · intro u r; cases r; exact ⟨_, .none⟩
  · intro b u r; cases r; exact ⟨_, .bool b⟩
  · intro i u r; obtain ⟨t, rfl⟩ := r; exact ⟨_, .int i t⟩
  · intro x u r; obtain ⟨t, rfl⟩ := r; exact ⟨_, .str x t⟩
  · intro a xs ds h _ ih u r
    cases r
    obtain ⟨its, r', ⟨o, ho, hc, n, hd⟩, _⟩ := I.tuple h
    obtain ⟨as, z⟩ := ih r'
    exact ⟨as, .tuple ho hc hd (by simpa using z)⟩
  · intro a xs ds h _ ih u r
    cases r
    obtain ⟨its, r', pl, _⟩ := I.list h
    obtain ⟨o, ho, hc, n, hd⟩ := pl.isList
    obtain ⟨as, z⟩ := ih r'
    exact ⟨_, .list ho hc hd (by simpa using z)⟩
  · intro us r; cases r; exact ⟨_, .nil⟩
  · intro v vs d ds _ _ a b us r
    cases r with
    | cons r1 r2 =>
      obtain ⟨as, z1⟩ := a r1
      obtain ⟨bs, z2⟩ := b r2
      exact ⟨_, .cons z1 z2⟩
end
/-- data that == may look at -/
def okD (d : PyData) : Bool := SeqAt.shaped d
section
variable {X : Cx}
def rEqD (K : PySem.W.Frag) : R2 := fun x y H Q => ∃ d e, DV K H x d ∧ DV K H y e ∧ okD d = true ∧ okD e = true ∧ Q (.bl (PyData.eqv d e)) H
def rNeD (K : PySem.W.Frag) : R2 := fun x y H Q => ∃ d e, DV K H x d ∧ DV K H y e ∧ okD d = true ∧ okD e = true ∧ Q (.bl (!PyData.eqv d e)) H
theorem op_eqD (hu : X.A.units + 64 < cLine) : OpR X (compareOp .Eq) (rEqD X.K) := by
  intro pins s σ H x y v u Q I rx ry h
  obtain ⟨d, e, h1, h2, o1, o2, q⟩ := h
  obtain ⟨as, r1⟩ := DV.reads I h1 rx
  obtain ⟨bs, r2⟩ := DV.reads I h2 ry
  exact eq_dataH r1 r2 o1 o2 hu ⟨.bl _, H, I, rfl, q⟩
theorem op_neD (hu : X.A.units + 64 < cLine) : OpR X (compareOp .NotEq) (rNeD X.K) := by
  intro pins s σ H x y v u Q I rx ry h
  obtain ⟨d, e, h1, h2, o1, o2, q⟩ := h
  obtain ⟨as, r1⟩ := DV.reads I h1 rx
  obtain ⟨bs, r2⟩ := DV.reads I h2 ry
  exact ne_dataH r1 r2 o1 o2 hu ⟨.bl _, H, I, rfl, q⟩
end

/-! ### a def that is called, in one piece -/
structure Cal (P : Program) (w : World) (K : PySem.W.Frag) (mg : Str → Option Value) (base : Heap) (CX : CXT) (k : Nat) (x : Str) (ps : List Str) (sp : Sp) : Prop where
  ex : ∃ (f : Addr) (fd : FuncData), FnOk P w K mg base CX k f fd ps sp ∧ Binds K fd ps [] ∧ PySem.W.keepIn K (.ref f) = true ∧ mg x = some (.ref f)
section
variable {X : Cx} {CX : CXT} {k n : Nat} {x : Str} {ps : List Str} {sp : Sp} {E : XK} {p pos : Pos} {e : Expr} {es : List Expr} {t : TA}
theorem pe_calX (C : Cal X.prog X.w X.K X.mg X.base CX k x ps sp) (hr : Room n X.A) (hx : Passes CX X E) (ha : PA X (e :: es) t) (hn : k ≤ n := by decide) (hg : Gl X x := by rfl) (hdb : (x == ("__debug__" : Str)) = false := by decide)
    (he : starEach (e :: es) X.env = (false, eval e X.env) :: starEach es X.env := by rfl) (hpl : (backTo pos (starEach es X.env)).any (·.1) = false := by rfl) :
    PE X (.Call (.Name x p) (e :: es) [] pos) (tCall sp [] E t) := by
  obtain ⟨f, fd, F, b, kp, m⟩ := C.ex
  exact pe_call F (hr.mono hn) hg m kp b .nil hx ha hdb he hpl
end

/-! ### isinstance -/
/-- a value's type, as isinstance's deciders take it -/
inductive TyX (K : PySem.W.Frag) (H : Hp) : V → Value → Prop where
  | non : TyX K H .non (.type "NoneType")
  | bl (x : Bool) : TyX K H (.bl x) (.type "bool")
  | int (i : Int) : TyX K H (.int i) (.type "int")
  | str (x : Str) : TyX K H (.str x) (.type "str")
  | lst {a : Addr} {xs : List V} (e : SqL K H a xs) : TyX K H (.ref a) (.type "list")
  | tup {a : Addr} {xs : List V} (e : SqT K H a xs) : TyX K H (.ref a) (.type "tuple")
section
variable {X : Cx} {pins : List (Addr × Obj)} {σ : L2.St} {H : Hp} {s : Shared} {A : Around} {E : Value → Shared → Prop} {Q : Value → Shared → Prop} {c : Value} {b : Bool}
/-- the kit of isinstance for such a value -/
theorem TyX.kit {x : V} {u t : Value} (I : Inv X pins σ H s) (rx : RelV x u) (ty : TyX X.K H x t) : u ≠ .builtin "__main__.__loader__#opaque" ∧ ∃ HP : Heap → Prop, PySem.W.KitX X.K u t HP ∧ HP s.heap := by
  cases ty with
  | non => cases (show u = Value.none from rx); exact ⟨fun z => (nomatch z), _, PySem.W.kitx_none, True.intro⟩
  | bl y => cases (show u = Value.bool y from rx); exact ⟨fun z => (nomatch z), _, PySem.W.kitx_bool, True.intro⟩
  | int i => obtain ⟨t, q⟩ := (show ∃ t, u = Value.int i t from rx); cases q; exact ⟨fun z => (nomatch z), _, PySem.W.kitx_int, True.intro⟩
  | str y => obtain ⟨t, q⟩ := (show ∃ t, u = Value.str y t from rx); cases q; exact ⟨fun z => (nomatch z), _, PySem.W.kitx_str, True.intro⟩
  | @lst a xs ea =>
    cases (show u = Value.ref a from rx)
    obtain ⟨its, _, pl, _⟩ := I.list ea
    obtain ⟨o, ho, hc, _⟩ := pl.isList
    exact ⟨fun z => (nomatch z), _, PySem.W.kitx_list, ⟨o, ho, hc⟩⟩
  | @tup a xs ea =>
    cases (show u = Value.ref a from rx)
    obtain ⟨its, _, ⟨o, ho, hc, _⟩, _⟩ := I.tuple ea
    exact ⟨fun z => (nomatch z), _, PySem.W.kitx_tuple, ⟨o, ho, hc⟩⟩
end
def vOf : V → Value
  | .ty n => .type n
  | .ref a => .ref a
  | _ => .none
def isCls : V → Bool
  | .ty _ => true
  | .ref _ => true
  | _ => false
theorem vOf_of {x : V} {u : Value} (h : isCls x = true) (r : RelV x u) : u = vOf x := by
  cases x <;> simp [isCls] at h <;> exact r
section
variable {X : Cx}
end
end L3
/-! refusals whose context is none, and stays none on their way -/
namespace L3
open PySem PySem.Spec PyProof.Rows L2
def Ctx0 (e : Addr) (h : Heap) : Prop := ∃ o vs, h.get? e = some o ∧ o.data = .fields vs ∧ vs[2]? = some Value.none
/-- a refusal under way, noted by any frame or by none -/
def HeldC (B : Heap) (l : List Env) (e : Addr) (cls a0 : Value) (fo : Option Addr) (h : Heap) : Prop :=
  (B.StaysIn h ∧ B.get? e = none ∧ h.FunFrames B l ∧ h.TracedAtW B e cls a0 (fo.elim .none fun f => rawInt f)) ∧ Ctx0 e h
theorem HeldC.there {B h : Heap} {l : List Env} {e : Addr} {cls a0 : Value} {fo : Option Addr} (x : HeldC B l e cls a0 fo h) : ∃ ob, h.get? e = some ob ∧ ob.cls = cls := x.1.2.2.2.there
theorem HeldC.tail {B h : Heap} {en : Env} {l : List Env} {e : Addr} {cls a0 : Value} {fo : Option Addr} (x : HeldC B (en :: l) e cls a0 fo h) : HeldC B l e cls a0 fo h := by
  obtain ⟨⟨y1, y2, ⟨_, _, y3⟩, y4⟩, y5⟩ := x
  exact ⟨⟨y1, y2, y3, y4⟩, y5⟩
section
variable {M : Model} {A : Around} {E : Value → Shared → Prop} {s : Shared} {B : Heap} {l outer : List Env} {env : Env} {L e : Addr} {cls a0 : Value} {fo fo' : Option Addr}
theorem flight_c {Q : Unit → Shared → Prop} (x : HeldC B l e cls a0 fo s.heap) (k : ∀ h', HeldC B l e cls a0 fo' h' → s.heap.UpToSlots h' → Q () { s with heap := h' }) : wpAny M A (setFlight (.ref e) fo') Q E s := by
  obtain ⟨⟨x1, x2, x3, oe, vs, T, oT, ts, g1, g2, g4, g5, g6, g7, g8, g9, g10⟩, o2, v2, c1, c2, c3⟩ := x
  have sz : 3 < ts.size := (Array.getElem?_eq_some_iff.mp g10).1
  have far : ∀ b, b ≠ T → (s.heap.update T (Obj.mapFields (fun u => u.setIfInBounds 3 (fo'.elim Value.none fun f => rawInt f)))).get? b = s.heap.get? b := fun b n => Heap.get?_update_other _ _ fun q => n q.symm
  have rec_ : ∀ b o, s.heap.get? b = some o → (∀ us, o.data ≠ .fields us) → b ≠ T := fun b o q n z => by
    subst z
    rw [g8] at q
    cases q
    exact n _ g9
  unfold setFlight
  refine wpAny_bind (wpAny_field g1 g4 g5 ?_)
  rw [if_pos (by simp)]
  refine wpAny_setField g8 g9 sz (k _ ⟨⟨fun b o q => ?_, x2, x3.of_keeps fun b o q n => ⟨o, (far b (rec_ b o q n)).trans q, rfl⟩, oe, vs, T, _, _, (far e g7.symm).trans g1, g2, g4, g5, g6, g7, Heap.get?_update_self _ g8 (Obj.isFreed_of_fields (Obj.data_mapFields g9 _)), Obj.data_mapFields g9 _, by simp [sz]⟩, o2, v2, (far e g7.symm).trans c1, c2, c3⟩ fun b o q n => ⟨o.slots, (far b (rec_ b o q n)).trans q⟩)
  refine (far b fun z => ?_).trans (x1 b o q)
  subst z
  rw [g6] at q; cases q
/-- an entry of the traceback is made -/
theorem entry_c {oe : Obj} {vs : Array Value} {head : Value} {hadNext : Bool} {Q : Unit → Shared → Prop} (fr : A.frames = some (env :: outer)) (ff : s.heap.FunFrames B (env :: outer)) (fe : env.frame = some L) (he : s.heap.get? e = some oe) (st : B.StaysIn s.heap) (ne : B.get? e = none) (hd : oe.data = .fields vs) (sz : 1 < vs.size) (h0 : vs[0]? = some a0) (h2 : vs[2]? = some Value.none)
    (k : ∀ h', HeldC B (env :: outer) e oe.cls a0 (some L) h' → s.heap.UpToSlots h' → Q () { s with heap := h' }) :
    wpAny M A (do let a ← PySem.frameOf env; let pl ← entryPlaceOf L hadNext; let b ← EntryCells.newEntry head a .none (rawInt L) .none pl; setField (.ref e) 1 b) Q E s := by
  have nfr : e ∉ (env :: outer).filterMap (·.frame) := fun z => by
    obtain ⟨_, o, q, n⟩ := ff.mem z
    rw [he] at q
    cases q
    exact n vs hd
  refine wpAny_bind (wpAny_frameOf_fun fr ff fe fun g so => ?_)
  refine wpAny_bind (wpAny_entryPlaceOf fun pl hpl => ?_)
  unfold EntryCells.newEntry newFields
  refine wpAny_bind (wpAny_newObj_type ?_ (hpl.sizeOk5 _ _ _ _ _))
  generalize hob : ({ cls := .type "traceback", dict := none, data := .fields ([head, .ref L, .none, rawInt L, .none] ++ (if pl.isEmpty then List.replicate 6 Value.none else pl)).toArray } : Obj) = tb
  have tbd : tb.data = .fields ([head, .ref L, .none, rawInt L, .none] ++ (if pl.isEmpty then List.replicate 6 Value.none else pl)).toArray := by rw [← hob]
  have he1 : g.get? e = some oe := (so.2.1 e nfr).trans he
  have st1 : B.StaysIn g := fun b o q => by
    refine (so.2.1 b fun z => ?_).trans (st b o q)
    rw [(ff.mem z).1] at q; cases q
  have new : g.objs.size ≠ e := Nat.ne_of_gt (Heap.lt_size he1)
  have he2 : (g.push tb).get? e = some oe := Heap.get?_push_of_some tb he1
  have live : tb.isFreed = false := by rw [← hob]; rfl
  refine wpAny_setField he2 hd sz (k _ ?_ fun b o q n => ?_)
  · have hd3 := Obj.data_mapFields hd (fun u => u.setIfInBounds 1 (Value.ref g.objs.size))
    have he3 := Heap.get?_update_self (Obj.mapFields (fun u => u.setIfInBounds 1 (Value.ref g.objs.size))) he2 (Obj.isFreed_of_fields hd3)
    have hT := (Heap.get?_update_other (g.push tb) (Obj.mapFields (fun u => u.setIfInBounds 1 (Value.ref g.objs.size))) (Ne.symm new)).trans (Heap.get?_push_size g live)
    have keep : ∀ b o, b ≠ e → g.get? b = some o → ((g.push tb).update e (Obj.mapFields (fun u => u.setIfInBounds 1 (Value.ref g.objs.size)))).get? b = some o := fun b o n q => by
      rw [Heap.get?_update_other _ _ (Ne.symm n)]
      exact Heap.get?_push_of_some _ q
    refine ⟨⟨fun b o q => keep b o (fun z => by rw [z, ne] at q; cases q) (st1 b o q), ne, ff.of_keeps fun b o q n => ?_, _, _, g.objs.size, _, _, he3, ⟨Obj.cls_mapFields _ _, by rw [Array.getElem?_setIfInBounds_ne (by decide)]; exact h0⟩, hd3, by simp [sz], st1.fresh, new, hT, tbd, by first | (simp; done) | (rcases hpl with rfl | ⟨_, _, _, _, _, _, _, rfl⟩ <;> simp)⟩, _, _, he3, hd3, by rw [Array.getElem?_setIfInBounds_ne (by decide)]; exact h2⟩
    obtain ⟨sl, q'⟩ := so.2.2 b o q
    exact ⟨_, keep b _ (fun z => by rw [z, he] at q; cases q; exact n vs hd) q', rfl⟩
  · obtain ⟨sl, q'⟩ := so.2.2 b o q
    refine ⟨sl, ?_⟩
    rw [Heap.get?_update_other _ _ (fun z => by rw [← z, he] at q; cases q; exact n vs hd)]
    exact Heap.get?_push_of_some _ q'
/-- a frame notes it -/
theorem note_c {Q : Unit → Shared → Prop} (fr : A.frames = some (env :: outer)) (fe : env.frame = some L) (x : HeldC B (env :: outer) e cls a0 fo s.heap) (k : ∀ h', HeldC B (env :: outer) e cls a0 (some L) h' → s.heap.UpToSlots h' → Q () { s with heap := h' }) : wpAny M A (noteFrame (.ref e) env) Q E s := by
  obtain ⟨⟨x1, x2, x3, oe, vs, T, oT, ts, g1, ⟨g2, g3⟩, g4, g5, g6, g7, g8, g9, g10⟩, o2, v2, c1, c2, c3⟩ := x
  rw [g1] at c1
  cases c1
  rw [g4] at c2
  cases c2
  subst g2
  by_cases c : fo = some L
  · subst c
    exact wpAny_noteFrame_againW fe ⟨oe, vs, T, oT, ts, g1, ⟨rfl, g3⟩, g4, g5, g6, g7, g8, g9, g10⟩ (k s.heap ⟨⟨x1, x2, x3, oe, vs, T, oT, ts, g1, ⟨rfl, g3⟩, g4, g5, g6, g7, g8, g9, g10⟩, oe, vs, g1, g4, c3⟩ (Heap.UpToSlots.refl _))
  · have far : ∀ b, b ≠ T → (s.heap.update T (Obj.mapFields (fun u => u.setIfInBounds 3 Value.none))).get? b = s.heap.get? b := fun b n => Heap.get?_update_other _ _ fun q => n q.symm
    have rec_ : ∀ b o, s.heap.get? b = some o → (∀ us, o.data ≠ .fields us) → b ≠ T := fun b o q n z => by
      subst z
      rw [g8] at q
      cases q
      exact n _ g9
    unfold noteFrame
    simp only [fe]
    refine wpAny_bind (wpAny_field g1 g4 g5 ?_)
    rw [if_pos (by simp)]
    refine wpAny_bind (wpAny_field g8 g9 g10 ?_)
    rw [if_neg (by
      intro z
      cases fo with
      | none => simp [rawInt] at z
      | some L' => simp [rawInt] at z; exact c (congrArg some (Int.ofNat.inj z)))]
    refine wpAny_bind (wpAny_setField g8 g9 (Array.getElem?_eq_some_iff.mp g10).1 ?_)
    refine entry_c fr (x3.of_keeps fun b o q n => ⟨o, (far b (rec_ b o q n)).trans q, rfl⟩) fe ((far e g7.symm).trans g1) (fun b o q => ?_) x2 g4 (Array.getElem?_eq_some_iff.mp g5).1 g3 c3 fun h' y up => k h' y fun b o q n => up b o ((far b (rec_ b o q n)).trans q) n
    refine (far b fun z => ?_).trans (x1 b o q)
    subst z
    rw [g6] at q; cases q
/-- it leaves a def -/
theorem leaves_c {Q : Unit → Shared → Prop} (fr : A.frames = some (env :: outer)) (fe : env.frame = some L) (x : HeldC B (env :: outer) e cls a0 fo s.heap) (k : ∀ h', HeldC B outer e cls a0 none h' → s.heap.UpToSlots h' → Q () { s with heap := h' }) : wpAny M A (leaving env (.ref e)) Q E s := by
  unfold leaving
  exact wpAny_bind (note_c fr fe x fun h1 y up => flight_c (fo' := none) y fun h2 z up2 => k h2 z.tail (up.trans up2))
/-- one that was just made leaves the def -/
theorem leaves_new {h : Heap} {args : List Value} {Q : Unit → Shared → Prop} (fr : A.frames = some (env :: outer)) (fe : env.frame = some L) (st : B.StaysIn h) (ff : h.FunFrames B (env :: outer)) (hx : Heap.MadeExcOf h s.heap e cls args) (k : ∀ h' t, HeldC B outer e cls (.ref t) none h' → s.heap.UpToSlots h' → Q () { s with heap := h' }) : wpAny M A (leaving env (.ref e)) Q E s := by
  obtain ⟨t, he, _, _⟩ := hx.there
  have ne : B.get? e = none := by
    cases q : B.get? e with
    | none => rfl
    | some o => have := st e o q; rw [hx.new] at this; cases this
  unfold leaving noteFrame
  simp only [fe]
  refine wpAny_bind (wpAny_bind (wpAny_field (x := Value.none) he rfl rfl ?_))
  rw [if_neg (show ¬ ((Value.none != Value.none) = true) from by simp)]
  exact entry_c (a0 := .ref t) fr (ff.of_keeps fun b o q _ => ⟨o, hx.keeps b o q, rfl⟩) fe he (fun b o q => hx.keeps b o (st b o q)) ne rfl (show 1 < 6 by decide) rfl rfl fun h1 y up => flight_c (fo' := none) y fun h2 z up2 => k h2 t z.tail (up.trans up2)
end
end L3
/-! OWN RULES: refusals. How an own exception is raised, leaves defs, is caught, and what isinstance says of it. -/
namespace L3
open PySem PySem.Spec PyProof.Rows L2

theorem ok_there {P : Program} {w : World} {H : Hp} {h : Heap} {a : Addr} {o : HO} (x : ObjOk P w H h a o) : ∃ ob, h.get? a = some ob := by
  cases o with
  | lst xs => obtain ⟨_, _, _, _, e⟩ := x; exact ⟨_, e⟩
  | tup xs => obtain ⟨_, _, _, ob, e, _⟩ := x; exact ⟨ob, e⟩
  | dK kvs => obtain ⟨_, _, _, _, o, _, _, e, _⟩ := x; exact ⟨o, e⟩
  | dT kvs => obtain ⟨_, _, _, _, o, _, _, e, _⟩ := x; exact ⟨o, e⟩
  | set S n => obtain ⟨o, _, _, _, e, _⟩ := x; exact ⟨o, e⟩
  | ins C dx fs => obtain ⟨_, _, _, e, _⟩ := x; exact ⟨_, e⟩
  | own y => exact x
  | xd fs => obtain ⟨_, ⟨o, _, _, e, _⟩, _⟩ := x; exact ⟨o, e⟩
  | rng lo hi => obtain ⟨_, _, _, e⟩ := x; exact ⟨_, e⟩
  | frz ob u => obtain ⟨e, _⟩ := x; exact ⟨_, e⟩
  | tbl ps => exact ⟨_, (show h.get? a = some _ from x)⟩
  | met f y => exact ⟨_, (show h.get? a = some _ from x)⟩
  | ext φ => obtain ⟨_, e, _⟩ := x; exact e

/-- what a refusal's passing leaves as it was -/
theorem un_to {P : Program} {w : World} {fs : List Addr} {H H1 : Hp} {h0 h h2 : Heap} (u : Un fs [] H H1 h0 h) (k : HOk P w H1 h)
    (cov : ∀ b o, h.get? b = some o → b ∉ fs → (h0.get? b ≠ none ∨ H1 b ≠ none) → h2.get? b = some o)
    (slot : ∀ b o, h.get? b = some o → b ∈ fs → ∃ sl, h2.get? b = some { o with slots := sl }) (free : ∀ b ∈ fs, H1 b = none) :
    Un fs [] H H1 h0 h2 ∧ HOk P w H1 h2 := by
  refine ⟨⟨fun b o q n hb hx => ?_, fun b o q n hb hx => ?_, u.free, fun b o q hx => ?_, u.tups, u.frzs, u.tbls⟩, fun a o e => ?_⟩
  · exact cov b o (u.keep b o q n hb hx) hb (.inl (by rw [q]; exact (fun z => nomatch z)))
  · obtain ⟨sl, e⟩ := u.slot b o q n hb hx
    obtain ⟨sl', e'⟩ := slot b _ e hb
    exact ⟨sl', e'⟩
  · obtain ⟨o', e⟩ := u.there b o q hx
    by_cases hb : b ∈ fs
    · obtain ⟨sl, e'⟩ := slot b o' e hb
      exact ⟨_, e'⟩
    · exact ⟨o', cov b o' e hb (.inl (by rw [q]; exact (fun z => nomatch z)))⟩
  · refine (k a o e).stay (fun b v hb q => ?_) (fun _ q => q) fun _ _ q => q
    have nn : H1 b ≠ none := by
      rcases hb with rfl | hb
      · rw [e]; exact (fun z => nomatch z)
      · rw [hb]; exact (fun z => nomatch z)
    exact cov b v q (fun hf => nn (free b hf)) (.inr nn)

/-- how a refusal lies behind a call: it flies over B, which holds all that stood ahead of the call and all that is tracked -/
def CXR (P : Program) (w : World) : CXT := fun outer H s E e s' =>
  ∃ (ea : Addr) (C : Value) (t : Addr) (B : Heap) (H' : Hp), e = .ref ea ∧ s'.os = s.os ∧ AllBare s'.gens ∧ Un (frs outer) [] H H' s.heap s'.heap ∧ HOk P w H' s'.heap ∧
    HeldC B outer ea C (.ref t) none s'.heap ∧ (∀ b o, s'.heap.get? b = some o → b ∉ frs outer → (s.heap.get? b ≠ none ∨ H' b ≠ none) → B.get? b = some o) ∧
    s.heap.get? ea = none ∧ H' ea = none ∧ E C none H'

section
variable {P : Program} {w : World} {K : PySem.W.Frag} {mg : Str → Option Value} {base : Heap} {N : List Str} {qual : Str} {scope : Scope} {f : Addr} {cd : Value} {A : Around} {outer : List Env} {s : Shared} {H : Hp} {E : XK}
/-- an exception that is wanted may be raised here -/
def RaisesTo (X : Cx) (E : XK) : Prop := ∀ (pins : List (Addr × Obj)) (σ : L2.St) (H : Hp) (s : Shared) (h' : Heap) (ea : Addr) (C : Value) (vs : List Value),
  Inv X pins σ H s → Heap.MadeExcOf s.heap h' ea C vs → E C none H → X.xe (.ref ea) { s with heap := h' }

theorem raises_def : RaisesTo (cxOf (CXR P w) P w K mg base N qual scope f cd A outer s H E) E := by
  intro pins σ H1 s1 h' ea C vs I hm hE
  have st := I.stack
  have nL : ∀ b, (s.heap.get? b ≠ none ∨ H1 b ≠ none) → b ∉ frs outer → b ∉ frs (envOfC qual scope s.heap.objs.size f cd :: outer) := fun b hn hb hf => by
    rcases List.mem_cons.mp (I.stkSub b hf) with z | z
    · subst z
      rcases hn with hn | hn
      · exact hn (Heap.get?_none_of_le (Nat.le_refl _))
      · exact hn I.free
    · exact hb z
  have sub : ∀ b ∈ frs outer, b ∈ frs (envOfC qual scope s.heap.objs.size f cd :: outer) := fun b hb => by
    unfold frs at hb ⊢
    exact List.mem_cons_of_mem _ hb
  refine leaves_new (B := PySem.W.hideAll s1.heap (frs (envOfC qual scope s.heap.objs.size f cd :: outer))) (h := s1.heap) I.ok.frames rfl (fun b o q => PySem.W.of_hideAll _ q)
    (PySem.W.funFrames_hide st fun en he b hb => List.mem_filterMap.mpr ⟨en, he, hb⟩) hm fun h2 t fl up => ?_
  have cov : ∀ b o, s1.heap.get? b = some o → b ∉ frs outer → (s.heap.get? b ≠ none ∨ H1 b ≠ none) → h2.get? b = some o := fun b o q hb hn => fl.1.1 b o (PySem.W.hideAll_get _ q (nL b hn hb))
  obtain ⟨U, HK⟩ := un_to I.base I.hok cov (fun b o q hb => by
    obtain ⟨_, o', e, nf⟩ := st.mem (sub b hb)
    rw [q] at e; cases e
    exact up b o (hm.keeps b o q) nf) fun b hb => I.stkFree b (sub b hb)
  have ex1 : ∀ b, (s.heap.get? b ≠ none ∨ H1 b ≠ none) → ∃ o, s1.heap.get? b = some o := fun b hn => by
    rcases hn with hn | hn
    · cases q : s.heap.get? b with
      | none => exact absurd q hn
      | some o => exact I.base.there b o q (by intro z; exact nomatch z)
    · cases q : H1 b with
      | none => exact absurd q hn
      | some u => exact ok_there (I.hok b u q)
  refine ⟨ea, C, t, _, H1, rfl, I.os, I.bare, U, HK, fl, fun b o q hb hn => ?_, ?_, ?_, hE⟩
  · obtain ⟨o1, e1⟩ := ex1 b hn
    have e2 := PySem.W.hideAll_get _ e1 (nL b hn hb)
    have e3 := fl.1.1 b o1 e2
    have e4 : h2.get? b = some o := q
    rw [e3] at e4; cases e4
    exact e2
  · cases q : s.heap.get? ea with
    | none => rfl
    | some o =>
      obtain ⟨o1, e1⟩ := ex1 ea (.inl (by rw [q]; exact (fun z => nomatch z)))
      rw [hm.new] at e1; cases e1
  · cases q : H1 ea with
    | none => rfl
    | some u =>
      obtain ⟨o1, e1⟩ := ex1 ea (.inr (by rw [q]; exact (fun z => nomatch z)))
      rw [hm.new] at e1; cases e1

/-- a callee's refusal leaves this def too -/
theorem passes_def : Passes (CXR P w) (cxOf (CXR P w) P w K mg base N qual scope f cd A outer s H E) E := by
  intro pins σ H1 s1 e s2 I h
  obtain ⟨ea, C, t, B, H', rfl, os, bare, un, hok, fl, cov, nea, nH, hE⟩ := h
  have J := I.call' (ch := []) os un hok bare (fun b z => nomatch z)
  have st := J.stack
  have nL : ∀ b, (s.heap.get? b ≠ none ∨ H' b ≠ none) → b ∉ frs outer → b ∉ frs (envOfC qual scope s.heap.objs.size f cd :: outer) := fun b hn hb hf => by
    rcases List.mem_cons.mp (J.stkSub b hf) with z | z
    · subst z
      rcases hn with hn | hn
      · exact hn (Heap.get?_none_of_le (Nat.le_refl _))
      · exact hn J.free
    · exact hb z
  have sub : ∀ b ∈ frs outer, b ∈ frs (envOfC qual scope s.heap.objs.size f cd :: outer) := fun b hb => by
    unfold frs at hb ⊢
    exact List.mem_cons_of_mem _ hb
  have old : ∀ b, s.heap.get? b ≠ none → s1.heap.get? b ≠ none := fun b hn => by
    cases q : s.heap.get? b with
    | none => exact absurd q hn
    | some o =>
      obtain ⟨o', e⟩ := I.base.there b o q (by intro z; exact nomatch z)
      rw [e]; exact (fun z => nomatch z)
  refine leaves_c I.ok.frames rfl fl fun h2 fl2 up => ?_
  have covB : ∀ b o, s2.heap.get? b = some o → b ∉ frs outer → (s.heap.get? b ≠ none ∨ H' b ≠ none) → B.get? b = some o := fun b o q hb hn => cov b o q (nL b hn hb) (hn.imp (old b) id)
  obtain ⟨U, HK⟩ := un_to J.base J.hok (fun b o q hb hn => fl2.1.1 b o (covB b o q hb hn)) (fun b o q hb => by
    obtain ⟨_, o', e, nf⟩ := st.mem (sub b hb)
    rw [q] at e; cases e
    exact up b o q nf) fun b hb => J.stkFree b (sub b hb)
  refine ⟨ea, C, t, B, H', rfl, J.os, J.bare, U, HK, fl2, fun b o q hb hn => ?_, ?_, nH, hE⟩
  · have ex2 : ∃ o, s2.heap.get? b = some o := by
      rcases hn with hn | hn
      · cases z : s.heap.get? b with
        | none => exact absurd z hn
        | some o => exact J.base.there b o z (by intro z; exact nomatch z)
      · cases z : H' b with
        | none => exact absurd z hn
        | some u => exact ok_there (J.hok b u z)
    obtain ⟨o1, e1⟩ := ex2
    have e2 := covB b o1 e1 hb hn
    have e3 := fl2.1.1 b o1 e2
    have e4 : h2.get? b = some o := q
    rw [e3] at e4; cases e4
    exact e2
  · cases q : s.heap.get? ea with
    | none => rfl
    | some o => exact absurd nea (old ea (by rw [q]; exact (fun z => nomatch z)))
end

/-! ### raise C(text) -/
/-- the class object of an own exception, out of the fragment -/
theorem exc_obj {K : PySem.W.Frag} {h : Heap} {C : Addr} {bB : List Value} {nid : String} (X : K.In h) (q : PySem.W.excIn K C bB nid = true) :
    ∃ tl NS nm qn bs hd sn sub ab col dd k0 k1 k2 k3 k5 mN, h.get? C = some (excClassObj nm qn C NS bs tl hd sn sub ab col dd k0 k1 k2 k3 k5 nid) ∧ h.Ns NS mN ∧ mN "__init__" = none ∧ OwnTail h bB tl := by
  unfold PySem.W.excIn at q
  split at q
  · rename_i d0 c0 sl0 look
    split at q
    · rename_i C1 tl a0 a1 a2 a3 n0 a5 em es
      simp only [Bool.and_eq_true, beq_iff_eq, Bool.not_eq_true'] at q
      obtain ⟨⟨⟨⟨⟨z1, z2⟩, z3⟩, z4⟩, z5⟩, z6⟩ := q
      subst z1 z2
      obtain ⟨nm, bs, mro, NS, qn, hd, sn, sub, ab, col, del⟩ := c0
      dsimp only at em z3 z5 z6
      subst em z3
      have es' : sl0 = #[a0, a1, a2, a3, some (.builtin n0), a5] := by
        cases sl0 with
        | mk l =>
          have es2 : l = [a0, a1, a2, a3, some (.builtin n0), a5] := es
          rw [es2]
      subst es'
      refine ⟨tl, NS, nm, qn, bs, hd, sn, sub, ab, col, d0, a0, a1, a2, a3, a5, h.nsMap NS, X _ _ look, ?_, ?_, PySem.W.tail_of_in X z4⟩
      · exact Heap.Ns.of_isNs (PySem.W.isNs_of_in X z5)
      · exact PySem.W.nsMap_none_of_in X z5 z6
    · exact nomatch q
  · exact nomatch q

def tRaise (C : Addr) (E : XK) (t : TA) : TS := fun _ σ H => t σ H fun vs H1 => vs.length ≤ sizeLine ∧ E (.ref C) none H1
section
variable {X : Cx} {E : XK} {C : Addr} {x : Str} {e : Expr} {es : List Expr} {t : TA} {np cpos pos : Pos}
theorem ps_raise (hE : RaisesTo X E) (hc : X.calm = true) (hm : X.mg x = some (.ref C))
    (q : PySem.W.excIn X.K C [.type "ValueError", .type "Exception", .type "BaseException", .type "object"] "ValueError.__new__" = true) (ha : PA X (e :: es) t)
    (hg : Gl X x := by rfl) (hdb : (x == ("__debug__" : Str)) = false := by decide)
    (he : starEach (e :: es) X.env = (false, eval e X.env) :: starEach es X.env := by rfl) (hpl : (backTo cpos (starEach es X.env)).any (·.1) = false := by rfl) :
    PS X (.Raise (some (.Call (.Name x np) (e :: es) [] cpos)) none pos) (tRaise C E t) := by
  intro pins s σ H D I h
  obtain ⟨tl, NS, nm, qn, bs, hd, sn, sub, ab, col, dd, k0, k1, k2, k3, k5, mN, hC, hN, hni, T⟩ := exc_obj I.ok.mod.kin q
  refine wpAny_Raise_call_subU (C := C) (nm := nm) (q := qn) (N := NS) (bs := bs) (bm := tl) (hdct := hd) (sn := sn) (sub := sub) (ab := ab) (col := col) (dd := dd)
    (k0 := k0) (k1 := k1) (k2 := k2) (k3 := k3) (k5 := k5) F.excBase_ValueError (by decide) F.excBase_ValueError (mN := mN) (T.hasType F.excBase_ValueError.hasBase) (I.ok.hd hc)
    (by rw [he]; show (false || (backTo cpos (starEach es X.env)).any (·.1)) = false; rw [hpl]; rfl) hni (ld_glob I hg hm ⟨rfl, ?_⟩ hdb)
  have h0 := ha cpos pins s σ H _ I h
  rw [he] at h0 ⊢
  refine Calls.evalArgs_plain (thn h0 fun us s1 z => ?_)
  obtain ⟨vs, H1, I1, r, zl, zE⟩ := z
  exact ⟨rfl, by rw [← r.length]; exact zl, I1.bk _ _ hC, hN.keeps I1.bk, T.keeps I1.bk, fun h' ea hm' => hE pins σ H1 s1 h' ea _ us I1 hm' zE⟩
end

/-! ### a def whose refusals are wanted -/
theorem okX {P : Program} {w : World} {K : PySem.W.Frag} {mg : Str → Option Value} {base : Heap} {x qual : Str} {st : Stmt} {f : Addr} {fd : FuncData} {N ps : List Str} {k : Nat} {sp : Sp} (F : Fun K x qual st f fd) (S : FnScope N ps (defScope st)) (len : ∀ vs H Q E, sp vs H Q E → vs.length = ps.length)
    (hbody : ∀ (cdv : Value) (A : Around) (outer : List Env) (s : Shared) (H : Hp) (vs : List V) (Q : VK) (E : XK), Room k (A.deeper (envOfC qual (defScope st) s.heap.objs.size f cdv)) → sp vs H Q E →
      ∃ t, PSs (cxOf (CXR P w) P w K mg base N qual (defScope st) f cdv A outer s H E) (defBody st) t ∧ t { nx := fun _ H' => Q .non H', rt := Q } (start N vs) H) : FnOk P w K mg base (CXR P w) (k + 1) f fd ps sp := by
  obtain ⟨oc, od, kV, doc, pm, an, cdv, ct, osl, rfl, lk, hcd⟩ := F.ex
  exact fn_of lk hcd S len fun A outer s H vs Q E hr hsp => hbody cdv A outer s H vs Q E hr hsp

/-! ### try: f(..) except C as n: .. -/
def XPost (X : Cx) (pins : List (Addr × Obj)) (σ : L2.St) (E : XK) (e : Value) (s' : Shared) : Prop := ∃ H1 s1, Inv X pins σ H1 s1 ∧ CXR X.prog X.w X.stack H1 s1 E e s'
/-- an expression that may be refused -/
def PEX (X : Cx) (e : Expr) (t : L2.St → Hp → VK → XK → Prop) : Prop :=
  ∀ (pins : List (Addr × Obj)) (s : Shared) (σ : L2.St) (H : Hp) (Q : VK) (E : XK), Inv X pins σ H s → t σ H Q E → wpAny (model X.prog X.w) X.A (eval e X.env) (EP X pins σ Q) (XPost X pins σ E) s
section
variable {X : Cx} {k n : Nat} {x : Str} {ps : List Str} {sp : Sp} {p pos : Pos} {e : Expr} {es : List Expr} {t : TA}
theorem pex_cal (C : Cal X.prog X.w X.K X.mg X.base (CXR X.prog X.w) k x ps sp) (hr : Room n X.A) (ha : PA X.nox (e :: es) t) (hn : k ≤ n := by decide) (hg : Gl X x := by rfl) (hdb : (x == ("__debug__" : Str)) = false := by decide)
    (he : starEach (e :: es) X.env = (false, eval e X.env) :: starEach es X.env := by rfl) (hpl : (backTo pos (starEach es X.env)).any (·.1) = false := by rfl) :
    PEX X (.Call (.Name x p) (e :: es) [] pos) (fun σ H Q E => t σ H fun vs H1 => sp vs H1 Q E) := by
  intro pins s σ H Q E I h
  obtain ⟨f, fd, F, b, kp, m⟩ := C.ex
  refine wpAny_Call_Name_kw (ld_glob I hg m ?_ hdb)
  refine PySem.W.callWith_K (h₀ := X.base) I.ok.mod.kin kp (wpAny_mono (ha pos pins s σ H _ (I.wish _) h) (fun us s1 z => ?_) fun _ _ z => False.elim z) he hpl
  obtain ⟨vs, H1, I1, r, q⟩ := z
  have J : Inv X pins σ H1 s1 := I1.unwish
  refine ⟨J.kIn, ?_⟩
  have hl : us.length = ps.length := by rw [← r.length]; exact F.len _ _ _ _ q
  have hb : BindsTo s1 fd ⟨us, []⟩ (ps.zip us) := by
    have := b s1 us J.kIn (by rw [List.append_nil]; exact hl)
    rwa [List.append_nil] at this
  refine wpAny_call (codeAny_mono (F.run X.A X.stack s1 H1 ⟨us, []⟩ us vs Q E (hr.mono hn) J.env0 hb r q) fun res s' hq => ?_)
  cases res with
  | error e' => exact ⟨H1, s1, J, hq⟩
  | ok fl =>
    cases fl with
    | ret u => exact J.after hq
    | next => exact False.elim hq
    | brk => exact False.elim hq
    | cont => exact False.elim hq
end

/-- an exception that was caught: its class is known -/
def excO (ea : Addr) (C : Value) : HO := .ext fun h => ∃ o, h.get? ea = some o ∧ o.cls = C ∧ ∃ vs, o.data = .fields vs ∧ vs[2]? = some Value.none
/-- within the suite of an except clause -/
abbrev Cx.inH (X : Cx) (ea : Addr) (xe : Value → Shared → Prop) : Cx := { X with A := X.A.mark (some (.ref ea)), calm := false, xe := xe }
theorem ok_inH {X : Cx} {ea : Addr} {xe : Value → Shared → Prop} (ok : X.Ok) : (Cx.inH X ea xe).Ok :=
  ⟨ok.mod, ok.kind, ok.glob, ok.blt, ok.above, ok.inj, ok.has, ok.cab, (fun z => nomatch z), ok.frames, ok.stk, ok.exf, ok.bs, ok.bsz, ok.noex, ok.exfs, ok.funs, ok.frf⟩
theorem ok_outH {X : Cx} {ea : Addr} {xe : Value → Shared → Prop} (hd : X.calm = true → X.A.handled = none) (ok : (Cx.inH X ea xe).Ok) : X.Ok :=
  ⟨ok.mod, ok.kind, ok.glob, ok.blt, ok.above, ok.inj, ok.has, ok.cab, hd, ok.frames, ok.stk, ok.exf, ok.bs, ok.bsz, ok.noex, ok.exfs, ok.funs, ok.frf⟩
section
variable {X : Cx} {pins : List (Addr × Obj)} {σ : L2.St} {H : Hp} {s : Shared} {ea : Addr} {xe : Value → Shared → Prop}
theorem Inv.inH (I : Inv X pins σ H s) : Inv (Cx.inH X ea xe) pins σ H s := ⟨ok_inH I.ok, I.os, I.bare, I.base, I.loc, I.cell, I.free, I.freeC, I.pin, I.hok, I.len⟩
theorem Inv.outH (hd : X.calm = true → X.A.handled = none) (I : Inv (Cx.inH X ea xe) pins σ H s) : Inv X pins σ H s := ⟨ok_outH hd I.ok, I.os, I.bare, I.base, I.loc, I.cell, I.free, I.freeC, I.pin, I.hok, I.len⟩
end
/-- what the fragment says of a class that is caught by another one (both own exceptions) -/
structure CatchK (K : PySem.W.Frag) (C B : Addr) : Prop where
  tyB : PySem.W.typeIn K (.ref B) = some (.type "type")
  clB : (PySem.W.clsIn K B).isSome = true
  exB : PySem.W.subIn K (.ref B) (.type "BaseException") = some true
  sub : PySem.W.subIn K (.ref C) (.ref B) = some true
theorem looks_isType {K : PySem.W.Frag} {M : Model} {h : Heap} {B : Addr} (X : K.In h) (c : (PySem.W.clsIn K B).isSome = true) : PySem.W.Looks M h (isType (.ref B)) true := by
  unfold PySem.W.clsIn at c
  split at c
  · rename_i look
    intro A' Q' E' s' k q
    unfold isType loadHead
    refine wpAny_bind ?_
    exact wpAny_loadPart (k _ _ (X _ _ look)) (wpAny_pure q)
  · exact nomatch c
end L3
/-! OWN RULES: the except clause, isinstance of what was caught. -/
namespace L3
open PySem PySem.Spec PyProof.Rows L2

/-- a thing that stood untracked is tracked from here on -/
theorem track {P : Program} {w : World} {fs : List Addr} {H H' : Hp} {h0 h : Heap} {ea : Addr} {φ : Heap → Prop} (u : Un fs [] H H' h0 h) (k : HOk P w H' h) (n : H' ea = none) (n0 : h0.get? ea = none)
    (hφ : φ h) (he : ∃ o, h.get? ea = some o) (st : ∀ h1 h2 : Heap, φ h1 → (∀ o, h1.get? ea = some o → h2.get? ea = some o) → φ h2) : Un fs [] H (upd H' ea (.ext φ)) h0 h ∧ HOk P w (upd H' ea (.ext φ)) h := by
  have ne : ∀ {b : Addr} {o : HO}, H' b = some o → b ≠ ea := fun {b o} e => ne_of_none e n
  refine ⟨⟨u.keep, u.slot, fun b o q z hx => ?_, u.there, fun b xs q => ?_, fun b o x q => ?_, fun b ps q => ?_⟩, fun a o e => ?_⟩
  · have hb : b ≠ ea := fun z => by subst z; rw [q] at n0; cases n0
    rw [upd_ne hb]; exact u.free b o q z hx
  · have e := u.tups b xs q
    rw [upd_ne (ne e)]; exact e
  · have e := u.frzs b o x q
    rw [upd_ne (ne e)]; exact e
  · obtain ⟨more, e⟩ := u.tbls b ps q
    exact ⟨more, by rw [upd_ne (ne e)]; exact e⟩
  · by_cases ha : a = ea
    · subst ha
      rw [upd_same] at e; cases e
      exact ⟨hφ, he, st⟩
    · rw [upd_ne ha] at e
      exact (k a o e).stay (fun _ _ _ q => q) (fun b q => by rw [upd_ne (ne q)]; exact q) fun b xs q => by rw [upd_ne (ne q)]; exact q

section
variable {X : Cx} {pins : List (Addr × Obj)} {σ : L2.St} {H : Hp} {s : Shared}
/-- a local name is let go -/
theorem inv_drop {m : Str → Option Value} {n : Str} {j : Nat} {v : Option Value} {h' : Heap} {tk : Nat} (I : Inv X pins σ H s) (hN : X.N.Nodup) (hj : X.N[j]? = some n)
    (hm : ∀ (i : Nat) (y : Str) (v : V), X.N[i]? = some y → σ[i]? = some (some v) → Vis X.env.scope y → ∃ u, RelV v u ∧ Look X.env s.heap m y u)
    (hn : s.heap.Ns X.env.locals m) (hn' : h'.Ns X.env.locals (fun y => if y = n then v else m y)) (hs : Heap.SameBut X.env.locals s.heap h') : Inv X pins (σ.set j none) H { s with heap := h', toks := tk } := by
  have cne := I.cne
  have old : ∀ b o, X.s₀.heap.get? b = some o → b ≠ X.env.locals := fun b o e => Nat.ne_of_lt (Nat.lt_of_lt_of_le (Heap.lt_size e) I.ok.above)
  refine ⟨I.ok, I.os, I.bare, ⟨fun b o e z hb hx => ?_, fun b o e z hb hx => ?_, I.base.free, fun b o e hx => ?_, I.base.tups, I.base.frzs, I.base.tbls⟩, ⟨_, hn', fun i y v' e1 e2 e3 => ?_⟩, fun y c e => ?_, I.free, I.freeC, fun p hp => ?_, fun b ob e => ?_, ?_⟩
  · exact (hs.2 b (old b o e)).trans (I.base.keep b o e z hb hx)
  · obtain ⟨sl, e1⟩ := I.base.slot b o e z hb hx
    exact ⟨sl, (hs.2 b (old b o e)).trans e1⟩
  · obtain ⟨o', e1⟩ := I.base.there b o e hx
    exact ⟨o', (hs.2 b (old b o e)).trans e1⟩
  · by_cases hi : i = j
    · subst hi
      have hl : i < σ.length := by rw [I.len]; exact (List.getElem?_eq_some_iff.mp hj).1
      rw [List.getElem?_set_self hl] at e2
      cases e2
    · rw [List.getElem?_set_ne (Ne.symm hi)] at e2
      obtain ⟨u, r, q⟩ := hm i y v' e1 e2 e3
      refine ⟨u, r, ?_⟩
      rcases q with ⟨k, e⟩ | ⟨k, c, e, z⟩
      · have ny : y ≠ n := fun z => hi (nodup_ix hN e1 (z ▸ hj))
        exact .inl ⟨k, by show (if y = n then v else m y) = some u; rw [if_neg ny]; exact e⟩
      · exact .inr ⟨k, c, e, z.sameBut hs (cne y c e)⟩
  · obtain ⟨w', z⟩ := I.cell y c e
    exact ⟨w', z.sameBut hs (cne y c e)⟩
  · obtain ⟨e, z, ne, nf, d⟩ := I.pin p hp
    exact ⟨(hs.2 p.1 ne).trans e, z, ne, nf, d⟩
  · refine (I.hok b ob e).stay (fun c w' hc q => (hs.2 c ?_).trans q) (fun _ q => q) fun _ _ q => q
    intro z
    subst z
    rcases hc with hc | hc
    · rw [← hc, I.free] at e; cases e
    · rw [I.free] at hc; cases hc
  · rw [List.length_set]; exact I.len
end

theorem looks_matches {K : PySem.W.Frag} {M : Model} {h : Heap} {ea C B : Addr} {oe : Obj} (X : K.In h) (he : h.get? ea = some oe) (hc : oe.cls = .ref C) (c : CatchK K C B) :
    PySem.W.Looks M h (excMatches (.ref ea) (.ref B)) true := by
  have L1 : PySem.W.Looks M h (isInstance (.ref B) (.type "tuple")) false := (PySem.W.looks_typeIn X c.tyB).andThen (PySem.W.Looks.of_pure tc_notTuple)
  have L2 : PySem.W.Looks M h (isExcClass (.ref B)) true := (looks_isType X c.clB).andThen (PySem.W.looks_subIn X c.exB)
  have L3 : PySem.W.Looks M h (typeOf (.ref ea)) (.ref C) := hc ▸ (PySem.W.Looks.ld he).andThen .now
  have L4 : PySem.W.Looks M h (isSubtype (.ref C) (.ref B)) true := PySem.W.looks_subIn X c.sub
  intro A Q E s k q
  unfold excMatches
  refine wpAny_bind (L1 A _ E s k ?_)
  simp only [Bool.false_eq_true, if_false]
  refine wpAny_bind (wpAny_pure ?_)
  simp only [List.forIn_cons, List.forIn_nil]
  refine wpAny_bind (wpAny_bind (wpAny_bind (L2 A _ E s k ?_)))
  simp only [Bool.not_true, Bool.false_eq_true, if_false]
  refine wpAny_pure ?_
  refine wpAny_pure ?_
  refine wpAny_bind (L3 A _ E s k ?_)
  refine wpAny_bind (wpAny_bind (wpAny_bind (L4 A _ E s k ?_)))
  simp only [if_true]
  refine wpAny_pure ?_
  refine wpAny_pure ?_
  exact wpAny_pure q

section
variable {X : Cx} {e : Expr} {te : L2.St → Hp → VK → XK → Prop} {B : Addr} {j : Nat} {ts : TS} {x n : Str} {b0 : Stmt} {suite : List Stmt} {p1 np hp pos : Pos}
/-- what stands in the except clause, from a refusal on -/
theorem caught_ok {pins : List (Addr × Obj)} {σ : L2.St} {E : XK} {D : Ends} {ev : Value} {s1 : Shared} {tz : Addr → TS} (hs : ∀ ea xe, PSs (Cx.inH X ea xe) (b0 :: suite) (tz ea)) (hN : X.N.Nodup) (hj : X.N[j]? = some n) (hl : X.env.kindOf n = some .local)
    (hg : Gl X x) (hm : X.mg x = some (.ref B)) (hst : X.stack = X.env :: X.outer) (hfr : X.env.frame = some X.env.locals) (hdb : (x == ("__debug__" : Str)) = false)
    (hE : ∀ C H', E C none H' → ∃ c, C = .ref c ∧ CatchK X.K c B ∧ ∀ ea, H' ea = none → tz ea { nx := fun σ' H2 => D.nx (σ'.set j none) H2, rt := fun _ _ => False } (σ.set j (some (.ref ea))) (upd H' ea (excO ea (.ref c))))
    (z : XPost X pins σ E ev s1) :
    wpAny (model X.prog X.w) X.A (noteFrame ev X.env) (fun _ s2 => wpAny (model X.prog X.w) X.A (setFlight ev none) (fun _ s3 =>
      wpAny (model X.prog X.w) X.A (handleBy ev X.env [.ExceptHandler (some (.Name x np)) (some n) (b0 :: suite) hp]) (SP X pins D) X.xe s3) X.xe s2) X.xe s1 := by
  obtain ⟨H1, s0, I1, ea, C, t, B', H', rfl, os, bare, un, hok, fl, cov, nea, nH, hq⟩ := z
  obtain ⟨c, rfl, ck, hq⟩ := hE _ _ hq
  have J : Inv X pins σ H' s1 := I1.call' (ch := []) os un hok bare (fun b z => nomatch z)
  have stk := J.stack
  have at_ : ∀ h', HeldC B' X.stack ea (.ref c) (.ref t) none h' → s1.heap.UpToSlots h' → Inv X pins σ (upd H' ea (excO ea (.ref c))) { s1 with heap := h' } := fun h' fl' up => by
    obtain ⟨U, HK⟩ := un_to un hok (fun b o q hb hn => fl'.1.1 b o (cov b o q hb hn)) (fun b o q hb => by
      obtain ⟨_, o', e', nf⟩ := stk.mem hb
      rw [q] at e'; cases e'
      exact up b o q nf) fun b hb => J.stkFree b hb
    obtain ⟨ob, hob, hobc⟩ := fl'.there
    obtain ⟨o2, v2, q1, q2, q3⟩ := fl'.2
    rw [hob] at q1
    cases q1
    obtain ⟨U2, HK2⟩ := track (φ := fun h => ∃ o, h.get? ea = some o ∧ o.cls = .ref c ∧ ∃ vs, o.data = .fields vs ∧ vs[2]? = some Value.none) U HK nH nea ⟨ob, hob, hobc, v2, q2, q3⟩ ⟨ob, hob⟩ fun h1 h2 ⟨o, e1, e2⟩ k => ⟨o, k o e1, e2⟩
    exact I1.call' (s' := { s1 with heap := h' }) (ch := []) os U2 HK2 bare (fun b z => nomatch z)
  have fl1 := fl
  rw [hst] at fl1
  refine note_c (J.ok.frames.trans (by rw [hst])) hfr fl1 fun h4 held up4 => ?_
  refine flight_c (fo' := none) held fun h5 fl5 up5 => ?_
  rw [← hst] at fl5
  have J5 := at_ h5 fl5 (up4.trans up5)
  obtain ⟨ob5, hob5, hobc5⟩ := fl5.there
  refine wpAny_handleBy_cons (codeAny_handlers_test (ld_glob (X := Cx.inH X ea fun _ _ => False) (Inv.inH J5) hg hm ?_ hdb)) ((fun q => nomatch q))
  refine looks_matches (M := model X.prog X.w) (h := h5) J5.kIn hob5 hobc5 ck _ _ _ _ (fun _ _ q => q) ?_
  simp only [if_true]
  refine codeAny_handlers_suite_as ?_
  refine flight_c (fo' := none) fl5 fun h6 fl6 up6 => ?_
  have J6 := at_ h6 fl6 ((up4.trans up5).trans up6)
  refine store_ok (X := Cx.inH X ea fun _ _ => False) (v := .ref ea) (Inv.inH J6) hN hj (Or.inl hl) rfl (fun s7 I7 => ?_) (Or.inr hl)
  have I7' : Inv X pins (σ.set j (some (.ref ea))) (upd H' ea (excO ea (.ref c))) s7 := Inv.outH J6.ok.hd I7
  refine thn (hs ea _ pins s7 _ _ _ (Inv.inH I7') (hq ea nH)) fun f s8 q8 => ?_
  cases f with
  | next =>
    obtain ⟨σ8, H8, I8, n8⟩ := q8
    have I8' : Inv X pins σ8 H8 s8 := Inv.outH J6.ok.hd I8
    obtain ⟨m, hn, hl8⟩ := I8'.loc
    have hk : (X.env.scope.kind == .class || (X.env.scope.kind == .module && X.env.locals != X.env.globals)) = false := by rw [I8'.ok.kind]; rfl
    refine wpAny_nameGoes_keeps hl hn hk fun h9 v hn9 sb9 => ?_
    exact ⟨_, H8, inv_drop I8' hN hj hl8 hn hn9 sb9, n8⟩
  | ret u => obtain ⟨_, _, _, _, _, z⟩ := q8; exact False.elim z
  | brk => obtain ⟨_, _, _, z⟩ := q8; exact False.elim z
  | cont => obtain ⟨_, _, _, z⟩ := q8; exact False.elim z
end

/-! ### isinstance of a caught exception -/
/-- what the fragment says of an own exception class, for isinstance -/
structure ExcK (K : PySem.W.Frag) (C : Addr) : Prop where
  cl : (PySem.W.clsIn K C).isSome = true
  ga : PySem.W.findIn K (.ref C) "__getattribute__" = some (some (.builtin "BaseException.__getattribute__"))
  no : PySem.W.findIn K (.ref C) "__getattr__" = some none
  ca : PySem.W.findIn K (.ref C) "__class__" = some (some (.builtin "object.__class__"))
  ob : PySem.W.subIn K (.ref C) (.type "object") = some true
  be : PySem.W.subIn K (.ref C) (.type "BaseException") = some true
end L3
/-! OWN RULES: the class of a caught exception. -/
namespace L3
open PySem PySem.Spec PySem.Calls PySem.Builtin PySem.Builtin.Getset_descriptor PyProof.Rows L2
section
variable {prog : Program} {w : World} {A : Around} {E : Value → Shared → Prop} {h : Heap} {g : Array GenState} {d : Drawn} {t : Nat} {os : OsState} {a C : Addr} {o : Obj} {K : PySem.W.Frag}
theorem xk_ty (hx : h.get? a = some o) (hc : o.cls = .ref C) (M : Model) : PySem.W.Looks M h (typeOf (.ref a)) (.ref C) := hc ▸ (PySem.W.Looks.ld hx).andThen .now
theorem xk_get {R : Result → Shared → Prop} {tp : Value} (X : K.In h) (x : ExcK K C) (hx : h.get? a = some o) (hc : o.cls = .ref C) (hq : R (.ok (.ret (.ref C))) ⟨h, g, d, t, os⟩) :
    codeAny (model prog w) A (.call (.builtin "getset_descriptor.__get__") ⟨[.builtin "object.__class__", .ref a, tp], []⟩) R ⟨h, g, d, t, os⟩ := by
  have L0 := xk_ty hx hc (model prog w)
  have L1 := PySem.W.looks_subIn (M := model prog w) X x.ob
  refine codeAny_call_builtin PySem.W.KF.slot_gs.plain PySem.W.KF.entry_gs (PySem.W.KF.slot_gs.check _ _ _ _ _ _ _ _ PySem.W.KF.type_class (PySem.W.KF.args_gs _ _ _) ?_)
  unfold Builtin.«getset_descriptor.__get__»; unfold descrGet
  rw [PySem.W.dga_obj]
  refine wpAny_bind (wpAny_pure ?_)
  unfold descrGetter descrCheckInstance; unfold descrNameAndClass isInstance
  simp only [PySem.W.KF.owner_class]
  repeat lk
  refine ⟨Code.quiet_builtin _ (by decide +kernel), codeAny_builtin PySem.W.KF.entry_class ?_⟩
  unfold Builtin.«object.__class__»; unfold shownTypeOf
  repeat lk
  exact hq
theorem xk_entry {tk : Tok} {Q : Fin → Shared → Prop} (X : K.In h) (x : ExcK K C) (hx : h.get? a = some o) (hc : o.cls = .ref C) (hq : Q (.done (.ret (.ref C))) ⟨h, g, d, t, os⟩) :
    wpAny (model prog w) A (Builtin.«object.__getattribute__» ⟨[.ref a, .str "__class__" tk], []⟩) Q E ⟨h, g, d, t, os⟩ := by
  have L0 := xk_ty hx hc (model prog w)
  have L1 := PySem.W.looks_findIn (M := model prog w) X x.ca
  have f5 := F.typeOf_object_class
  have f6 := F.slot_gs_get.lookup
  have f7 := F.slot_gs_set.lookup
  repeat (any_goals (first | assumption | with_reducible refine PySem.W.Looks.at L0 ?_ | with_reducible refine PySem.W.Looks.at L1 ?_ | (with_reducible refine wpAny_loadPart_at hx ?_; rw [hc]) | wp_step))
  refine xk_get X x hx hc ?_
  repeat (any_goals (first | assumption | wp_step))
theorem xk_check {M : Model} {nameV : Value} {Q : Unit → Shared → Prop} (X : K.In h) (x : ExcK K C) (hx : h.get? a = some o) (hc : o.cls = .ref C) (hq : Q () ⟨h, g, d, t, os⟩) :
    wpAny M A (checkBuiltinCall "BaseException.__getattribute__" ⟨[.ref a, nameV], []⟩) Q E ⟨h, g, d, t, os⟩ := by
  have k1 : builtinKind "BaseException.__getattribute__" = some .slot := by decide +kernel
  have k2 : splitId "BaseException.__getattribute__" = some ("BaseException", "__getattribute__") := by decide +kernel
  have L : PySem.W.Looks M h (isInstance (.ref a) (.type "BaseException")) true := (xk_ty hx hc M).andThen (PySem.W.looks_subIn X x.be)
  have ha := F.args_bexc_ga (.ref a) nameV
  simp only [checkBuiltinCall, k1, k2]
  refine wpAny_bind (L.at ?_)
  repeat (any_goals (first | assumption | wp_step))
theorem xk_by {tk : Tok} {Q : Value → Shared → Prop} (X : K.In h) (x : ExcK K C) (hx : h.get? a = some o) (hc : o.cls = .ref C) (hq : Q (.ref C) ⟨h, g, d, t, os⟩) :
    wpAny (model prog w) A (getAttrBy (.ref a) (.str "__class__" tk) false false) Q E ⟨h, g, d, t, os⟩ := by
  have L0 := xk_ty hx hc (model prog w)
  have L1 := PySem.W.looks_findIn (M := model prog w) X x.ga
  have L2 := PySem.W.looks_findIn (M := model prog w) X x.no
  have f3 := F.attr_ValueError.ga.bind (.ref a)
  have z0 : (false && onTheHeap (Value.builtin "BaseException.__getattribute__")) = false := rfl
  have z2 : (Value.builtin "BaseException.__getattribute__" == Value.builtin "object.__getattribute__") = false := by decide +kernel
  have z1 : (onTheHeap (Value.ref C) && Value.builtin "BaseException.__getattribute__" == Value.builtin "object.__getattribute__") = false := by rw [z2]; rfl
  repeat (any_goals (first | assumption | with_reducible refine PySem.W.Looks.at L0 ?_ | with_reducible refine PySem.W.Looks.at L1 ?_ | with_reducible refine PySem.W.Looks.at L2 ?_ | wp_step))
  refine codeAny_call_builtin F.attr_ValueError.ga.plain F.entry_bexc_ga (xk_check X x hx hc (xk_entry X x hx hc ?_))
  repeat (any_goals (first | assumption | wp_step))
theorem xk_attr {Q : Option Value → Shared → Prop} (X : K.In h) (x : ExcK K C) (hx : h.get? a = some o) (hc : o.cls = .ref C) (hq : Q (some (.ref C)) ⟨h, g, d, t + 1, os⟩) :
    wpAny (model prog w) A (getAttr? (.ref a) "__class__") Q E ⟨h, g, d, t, os⟩ := by
  unfold getAttr?; unfold getAttrBy?
  repeat (any_goals (first | assumption | with_reducible apply xk_by X x hx hc | wp_step))
end
theorem kitx_exc {K : PySem.W.Frag} {a C : Addr} (x : ExcK K C) : PySem.W.KitX K (.ref a) (.ref C) (fun h => ∃ o, h.get? a = some o ∧ o.cls = .ref C) where
  ty := fun M h _ p => by
    obtain ⟨o, h1, h2⟩ := p
    exact xk_ty h1 h2 M
  it := fun _ _ X _ => looks_isType X x.cl
  ne := fun h tp dd its n sl X htp => by
    refine Bool.eq_false_iff.mpr fun q => ?_
    have e : C = tp := Value.ref.inj (beq_iff_eq.mp q)
    subst e
    have c := x.cl
    unfold PySem.W.clsIn at c
    split at c
    · rename_i look
      have z := (X _ _ look).symm.trans htp
      cases z
    · exact nomatch c
  ca := fun {_ _ _ _ _ s} X p k => by
    obtain ⟨hh, g, d, t, os⟩ := s
    obtain ⟨o, h1, h2⟩ := p
    exact xk_attr X x h1 h2 k

/-- a value's type, exceptions that were caught among them -/
inductive TyE (K : PySem.W.Frag) (H : Hp) : V → Value → Prop where
  | of {x : V} {t : Value} : TyX K H x t → TyE K H x t
  | exc {a C : Addr} : ExcK K C → H a = some (excO a (.ref C)) → TyE K H (.ref a) (.ref C)
section
variable {X : Cx} {pins : List (Addr × Obj)} {σ : L2.St} {H : Hp} {s : Shared}
theorem TyE.kit {x : V} {u t : Value} (I : Inv X pins σ H s) (rx : RelV x u) (ty : TyE X.K H x t) : u ≠ .builtin "__main__.__loader__#opaque" ∧ ∃ HP : Heap → Prop, PySem.W.KitX X.K u t HP ∧ HP s.heap := by
  cases ty with
  | of h => exact TyX.kit I rx h
  | @exc a C xk e =>
    cases (show u = Value.ref a from rx)
    obtain ⟨⟨o, e1, e2, _⟩, _, _⟩ := I.hok a _ e
    exact ⟨fun z => (nomatch z), _, kitx_exc xk, o, e1, e2⟩
end
theorem vals_cls : ∀ {cs : List V} {us : List Value}, Vals cs us → (∀ c ∈ cs, isCls c = true) → us = cs.map vOf
  | _, _, .nil, _ => rfl
  | _, _, .cons r t, h => by
    rw [List.map_cons, ← vals_cls t (fun c m => h c (.tail _ m)), vOf_of (h _ (.head _)) r]
section
variable {X : Cx}
theorem call_isE : CallR X (.builtin "isinstance") (fun xs H Q => ∃ x c t b, xs = [x, c] ∧ TyE X.K H x t ∧ isCls c = true ∧ PySem.W.kitOne X.K t (vOf c) = some b ∧ Q (.bl b) H) := by
  intro pins s σ H xs us Q I r h
  obtain ⟨x, c, t, b, rfl, ty, hc, hk, q⟩ := h
  cases r with
  | cons r1 r2 =>
    cases r2 with
    | cons r2 r3 =>
      cases r3
      cases vOf_of hc r2
      obtain ⟨hne, HP, kx, hp⟩ := TyE.kit I r1 ty
      exact PySem.W.kia_one kx I.kIn hp hk hne fun tk => ⟨.bl b, H, I.tok tk, rfl, q⟩
/-- isinstance(x, (C, D, ..)): the tuple was just made -/
theorem call_isT : CallR X (.builtin "isinstance") (fun xs H Q => ∃ x p cs t b, xs = [x, .ref p] ∧ H p = some (.tup cs) ∧ TyE X.K H x t ∧ (∀ c ∈ cs, isCls c = true) ∧ PySem.W.kitAny X.K t (cs.map vOf) = some b ∧ Q (.bl b) H) := by
  intro pins s σ H xs us Q I r h
  obtain ⟨x, p, cs, t, b, rfl, hp, ty, hc, hk, q⟩ := h
  cases r with
  | cons r1 r2 =>
    cases r2 with
    | cons r2 r3 =>
      cases r3
      cases r2
      obtain ⟨hne, HP, kx, hpp⟩ := TyE.kit I r1 ty
      obtain ⟨_, its, rv, o, ho, hcl, n, hd⟩ := I.hok p _ hp
      have ei : its = cs.map vOf := vals_cls rv hc
      subst ei
      obtain ⟨cls, dd, data, sl⟩ := o
      dsimp only at hcl hd
      subst hcl hd
      exact PySem.W.kia_tup kx I.kIn hpp ho hk hne fun tk => ⟨.bl b, H, I.tok tk, rfl, q⟩
end
end L3
/-! THE LAW'S ATTACHMENT, a def of the text by the fragment. -/
namespace L3
open PySem PySem.Spec PyProof.Rows L2
structure HasDef (K : PySem.W.Frag) (x : Str) (st : Stmt) : Prop where
  ex : ∃ (f : Addr) (fd : FuncData), Fun K x x st f fd ∧ PySem.W.nsIn K mainGlobals x = some (some (.ref f))
theorem hasDef_mk {K : PySem.W.Frag} {x : Str} {st : Stmt} {f : Addr} {oc : Value} {od an : Option Addr} {osl : Array (Option Value)} {kV doc pm cdv ct : Value} (a : PySem.W.nsIn K mainGlobals x = some (some (.ref f)))
    (l : K.lookup f = some ⟨oc, od, .func (PySem.W.fnOf x x (defArgs st) (defBody st) (defScope st) .none kV doc pm an cdv ct), osl⟩) (c : PySem.W.codeIn K cdv x = true) (k : PySem.W.keepIn K (.ref f) = true) : HasDef K x st :=
  ⟨f, _, fun_mk l c k, a⟩
theorem cal_of {P : Program} {w : World} {K : PySem.W.Frag} {mg : Str → Option Value} {base h : Heap} {CX : CXT} {k : Nat} {x : Str} {st : Stmt} {ps : List Str} {sp : Sp} (X : K.In h) (G : h.Ns mainGlobals mg) (D : HasDef K x st)
    (hb : ∀ (kV doc pm : Value) (an : Option Addr) (cdv ct : Value) (us : List Value), us.length = ps.length → bindArgs (PySem.W.fnOf x x (defArgs st) (defBody st) (defScope st) .none kV doc pm an cdv ct) ⟨us, []⟩ = pure (ps.zip us))
    (ok : ∀ (f : Addr) (fd : FuncData), Fun K x x st f fd → FnOk P w K mg base CX k f fd ps sp) : Cal P w K mg base CX k x ps sp := by
  obtain ⟨f, fd, F, a⟩ := D.ex
  exact ⟨f, fd, ok f fd F, F.binds hb, F.kp, PySem.W.mg_of X G a⟩
/-- what law(script) promises: for a list of at most 63 ints the answer is True -/
def spLaw (K : PySem.W.Frag) : Sp := fun vs H Q _ => ∃ (a : Addr) (ns : List Int), vs = [.ref a] ∧ SqL K H a (ns.map V.int) ∧ ns.length ≤ 63 ∧ ∀ H', Q (.bl true) H'
theorem walkL {l : PySem.W.OpenLaw} {q : Program} {loose : List Str} {XP : (Str → Option Value) → Heap → Prop} {YP : World → Heap → Prop} {d : DefRec} {K : Params → PySem.W.Frag} (hn : l.most = some 63) (hdf : d.params.defaults = [])
    (hY : ∀ (w : World) (h : Heap), YP w h → (K w.params).In h)
    (F : ∀ (w : World) (mg : Str → Option Value) (fa : Addr) (h : Heap), (K w.params).In h → h.Ns mainGlobals mg → mg d.name = some (.ref fa) →
      ∃ fd : FuncData, (∀ (s : Shared) (u : Value), BindsTo s fd ⟨[u], []⟩ [("_law_script", u)]) ∧ ∀ base : Heap, (K w.params).In base → base.Ns mainGlobals mg → FnOk l.prog w (K w.params) mg base CX0 40 fa fd ["_law_script"] (spLaw (K w.params))) :
    PySem.W.WalkO q loose XP YP l.row.toRowW d [] (fun f vs => PySem.call f vs) :=
  L2.walk_of (n := 63) (k := 40) (x := "_law_script") (CX := fun _ => CX0) (sp := fun w => spLaw (K w.params)) hn (by decide) hdf ⟨rfl, by decide, by decide⟩ hY F (fun _ _ a ns hl _ hS => ⟨a, ns, rfl, hS, hl, fun _ => rfl⟩) fun _ _ _ _ _ z => z
theorem law_of {P : Program} {w : World} {K : PySem.W.Frag} {mg : Str → Option Value} {h : Heap} {st : Stmt} {fa : Addr} (X : K.In h) (G : h.Ns mainGlobals mg) (hmg : mg "law" = some (.ref fa)) (D : HasDef K "law" st)
    (hb : ∀ (kV doc pm : Value) (an : Option Addr) (cdv ct : Value) (u : Value), bindArgs (PySem.W.fnOf "law" "law" (defArgs st) (defBody st) (defScope st) .none kV doc pm an cdv ct) ⟨[u], []⟩ = pure [(("_law_script" : Str), u)])
    (ok : ∀ (base : Heap), K.In base → base.Ns mainGlobals mg → ∀ (f : Addr) (fd : FuncData), Fun K "law" "law" st f fd → FnOk P w K mg base CX0 40 f fd ["_law_script"] (spLaw K)) :
    ∃ fd : FuncData, (∀ (s : Shared) (u : Value), BindsTo s fd ⟨[u], []⟩ [("_law_script", u)]) ∧ ∀ base : Heap, K.In base → base.Ns mainGlobals mg → FnOk P w K mg base CX0 40 fa fd ["_law_script"] (spLaw K) := by
  obtain ⟨f, fd, F, a⟩ := D.ex
  have e := hmg.symm.trans (PySem.W.mg_of X G a)
  cases e
  refine ⟨fd, fun s u => ?_, fun base kb nb => ok base kb nb _ fd F⟩
  obtain ⟨oc, od, kV, doc, pm, an, cdv, ct, osl, rfl, lk, hcd⟩ := F.ex
  exact .of_eq (hb kV doc pm an cdv ct u)

/-! ### numbers -/
def nD (q : Rat) : PyData := .tuple [.int q.num, .int (q.den : Int)]
/-- a number of a size that is reckoned with -/
def Sz (n : Nat) (q : Rat) : Prop := q.num.natAbs < 2 ^ n ∧ q.den < 2 ^ n
theorem eqv_num (p q : Rat) : PyData.eqv (nD p) (nD q) = decide (p = q) := by
  simp only [nD, PyData.eqv, PyData.eqvAll, Bool.and_true]
  by_cases h : p = q
  · subst h; simp
  · rw [decide_eq_false h]
    refine Bool.eq_false_iff.mpr fun z => h ?_
    simp only [Bool.and_eq_true, beq_iff_eq] at z
    exact Rat.ext z.1 (by omega)
theorem ok_num (q : Rat) : okD (nD q) = true := by
  unfold okD SeqAt.shaped nD
  simp [PyData.canLay0, PyData.canLayAll0, PyData.depth, PyData.depthAll]
theorem noL_num (q : Rat) : noL (nD q) = true := by simp [noL, noLs, nD]
end L3

set_option Elab.async false
set_option linter.all false
set_option maxRecDepth 100000
set_option maxHeartbeats 4000000
/-! OWN RULES: list comprehensions over one clause. -/
namespace L3
open PySem PySem.Spec PyProof.Rows L2

section
variable {prog : Program} {w : World} {A : Around} {R : Result → Shared → Prop} {s : Shared}
/-- the comprehension's loop, the step ahead of the store kept -/
theorem comp_loop {elt target iter : Expr} {ifs : List Expr} {scope : Scope} {pos : Pos} {it acc : Value} {env : Env} (W : Nat → Shared → Prop)
    (turn : ∀ n s, W n s → wpAny (model prog w) A (pyNext it) (fun r s1 => match r with
      | none => R (.ok .next) s1
      | some v => wpAny (model prog w) A (letOwnedTupleGo target it v) (fun _ s2 => wpAny (model prog w) A (assign target env v) (fun _ s3 =>
          wpAny (model prog w) A (forIn ifs true fun c r => if r = true then do let ok ← isTrue c env (eval c env); pure (ForInStep.yield ok) else pure (ForInStep.yield r)) (fun ok s4 =>
            if ok = true then wpAny (model prog w) A (eval elt env) (fun y s5 => wpAny (model prog w) A (call (.builtin "list.append") [acc, y]) (fun _ s6 => ∃ m, m < n ∧ W m s6) (fun _ _ => False) s5) (fun _ _ => False) s4
            else ∃ m, m < n ∧ W m s4) (fun _ _ => False) s3) (fun _ _ => False) s2) (fun _ _ => False) s1) (fun _ _ => False) s)
    (n : Nat) (h : W n s) : codeAny (model prog w) A (.compLoop (.ListComp elt [⟨target, iter, ifs, 0⟩] scope pos) 0 it acc env) R s := by
  refine codeAny_loop rfl W (fun n s hW => ?_) n h
  show wpAny _ A ((compTurn (.ListComp elt [⟨target, iter, ifs, 0⟩] scope pos) 0 it acc env).onRaise (fun x => do noteFrame x env; theTreesLotGoes x)) _ _ s
  refine wpAny_noted ?_
  rw [compTurn_list]
  refine wpAny_bind (wpAny_standAt (wpAny_bind (wpAny_mono (turn n s hW) (fun r s1 h1 => ?_) fun _ _ z => z.elim)))
  cases r with
  | none => exact wpAny_pure h1
  | some v =>
    refine wpAny_bind (wpAny_mono h1 (fun _ s2 h2 => ?_) fun _ _ z => z.elim)
    refine wpAny_bind (wpAny_mono h2 (fun _ s3 h3 => ?_) fun _ _ z => z.elim)
    refine wpAny_bind (wpAny_mono h3 (fun ok s4 h4 => ?_) fun _ _ z => z.elim)
    cases ok with
    | false => exact wpAny_pure ⟨rfl, h4⟩
    | true =>
      refine wpAny_bind (wpAny_bind (wpAny_mono h4 (fun y s5 h5 => ?_) fun _ _ z => z.elim))
      exact wpAny_bind (wpAny_mono h5 (fun _ s6 h6 => wpAny_pure (wpAny_pure ⟨rfl, h6⟩)) fun _ _ z => z.elim)
end

/-- what the text says of a comprehension's names -/
structure CompOk (X : Cx) (x : Str) (scope : Scope) (cl : List (Str × Addr)) : Prop where
  clos : closureFor scope X.env = pure cl
  sub : ∀ y c, cl.lookup y = some c → X.env.cells.lookup y = some c
  has : ∀ y, (relabel scope X.env).names.lookup y = some .cell ∨ (relabel scope X.env).names.lookup y = some .free → ∃ c, cl.lookup y = some c
  nocell : ∀ y ∈ scope.names, y.2 ≠ .cell
  kind : scope.kind = .function
  names : ∀ y ∈ scope.names, y.2 = .local → scope.names.lookup y.1 = some .local
  tgt : scope.names.lookup x = some .local
  cellv : ∀ y ∈ X.N, Vis (relabel scope X.env) y → ((relabel scope X.env).names.lookup y = some .cell ∨ (relabel scope X.env).names.lookup y = some .free) ∧ (X.env.scope.names.lookup y = some .cell ∨ X.env.scope.names.lookup y = some .free)
  nd : x ∉ X.N
def tLC (wi : TI) (tt : TT) (te : TE) : TE := fun σ H Q => wi σ H fun J H1 => ∀ acc, H1 acc = none → ∃ W : Nat → Nat → List V → Hp → Prop, (∃ m, W 0 m [] (upd H1 acc (.lst []))) ∧
  ∀ i m xs H, W i m xs H → H acc = some (.lst xs) ∧ ((J.stop i H ∧ Q (.ref acc) H) ∨ (J.go i H ∧ ∀ y H', J.yld i H y H' →
    tt (some y :: σ) H' fun ok H2 => if ok = true then te (some y :: σ) H2 fun v H3 => H3 acc = some (.lst xs) ∧ xs.length < sizeLine ∧ ∃ m', m' < m ∧ W (i + 1) m' (xs ++ [v]) (upd H3 acc (.lst (xs ++ [v]))) else ∃ m', m' < m ∧ W (i + 1) m' xs H2))
/-- the tests of a clause: none, or one -/
def PIfs (X : Cx) (ifs : List Expr) (t : TT) : Prop :=
  ∀ (pins : List (Addr × Obj)) (s : Shared) (σ : L2.St) (H : Hp) (Q : Bool → Hp → Prop), Inv X pins σ H s → t σ H Q →
    wpAny (model X.prog X.w) X.A (forIn ifs true fun c r => if r = true then do let ok ← isTrue c X.env (eval c X.env); pure (ForInStep.yield ok) else pure (ForInStep.yield r)) (TP X pins σ Q) X.xe s
def tTrue : TT := fun _ H Q => Q true H
theorem pifs_nil {X : Cx} : PIfs X [] tTrue := fun _ _ _ H _ I h => wpAny_tests_nil ⟨H, I, h⟩
section
variable {X : Cx} {x : Str} {scope : Scope} {cl : List (Str × Addr)} {wi : TI} {tt : TT} {te : TE} {elt iter : Expr} {ifs : List Expr} {px pos : Pos}
end
end L3

set_option Elab.async false
set_option linter.all false
set_option maxRecDepth 100000
set_option maxHeartbeats 4000000
namespace L3
open PySem PySem.Spec PyProof.Rows L2
set_option maxRecDepth 100000
namespace RF
end RF
section
variable {prog : Program} {w : World} {A : Around} {E : Value → Shared → Prop} {s : Shared}
end
/-! ### what reversed(t) walks -/
section
variable {X : Cx} {tg : Expr}
/-! ### range(a, b, -1) -/
end
section
variable {X : Cx} {tg : Expr}
end
/-! ### x[::-1] -/
section
variable {prog : Program} {w : World} {A : Around} {E : Value → Shared → Prop} {s : Shared}
end
section
variable {X : Cx} {e st : Expr} {te : TE} {p2 pos : Pos}
end
end L3

set_option Elab.async false
set_option linter.all false
set_option maxRecDepth 100000
set_option maxHeartbeats 4000000
/-! OWN RULES: name = a comprehension. -/
namespace L3
open PySem PySem.Spec PyProof.Rows L2
section
variable {X : Cx} {x : Str} {scope : Scope} {cl : List (Str × Addr)} {wi : TI} {tt : TT} {te : TE} {elt iter : Expr} {ifs : List Expr} {px pos : Pos}
end
end L3

set_option Elab.async false
set_option linter.all false
set_option maxRecDepth 100000
set_option maxHeartbeats 4000000
namespace L3
open PySem PySem.Spec PyProof.Rows L2
set_option maxRecDepth 100000
namespace RF
end RF
section
variable {prog : Program} {w : World} {A : Around} {E : Value → Shared → Prop} {s : Shared}
variable {I : Addr} {fp wr : List Addr} {G : Array GenState → Array GenState → Prop} {n : Nat} {P : Nat → Value → Prop} {St : Nat → Shared → Prop} {R : Result → Shared → Prop}
end
section
variable {X : Cx}
end
end L3

set_option Elab.async false
set_option linter.all false
set_option maxRecDepth 100000
set_option maxHeartbeats 4000000
namespace L3
open PySem PySem.Spec PyProof.Rows L2
section
variable {X : Cx} {x x2 : Str} {kk : Nat} {py pt : Pos} {scope : Scope} {cl : List (Str × Addr)} {wi : TI} {tt : TT} {te : TE} {elt iter : Expr} {ifs : List Expr} {px pos : Pos}
end
end L3

set_option Elab.async false
set_option linter.all false
set_option maxRecDepth 100000
set_option maxHeartbeats 4000000
namespace HT
open PySem PyProof.Rows
section
variable {prog : Program} {w : World} {A : Around} {E : Value → Shared → Prop} {s : Shared}
end
end HT
namespace L3
open PySem PySem.Spec PyProof.Rows L2
variable {X : Cx}
end L3

set_option Elab.async false
set_option linter.all false
set_option maxRecDepth 100000
set_option maxHeartbeats 4000000
/-! list + list, whoever holds them; in of data -/
namespace L3
open PySem PySem.Spec PyProof.Rows L2 PySem.AutoSeq1
theorem meets_add (l b : Addr) (xs ys : Array Value) (m n : Nat) (s1 s2 : Array (Option Value)) (hz : xs.size + ys.size ≤ sizeLine) :
    Meets (Builtin.«list.__add__» ⟨[.ref l, .ref b], []⟩) (fun _ R s => s.heap.get? l = some ⟨.type "list", none, .seq xs m, s1⟩ ∧ s.heap.get? b = some ⟨.type "list", none, .seq ys n, s2⟩ ∧
      R (.ok (.ret (Value.ref s.heap.objs.size))) { s with heap := s.heap.push { cls := Value.type "list", data := Data.seq (xs ++ ys) }, toks := s.toks }) := by
  refine .of_wp fun prog w A R s h => ?_
  obtain ⟨ha, hg, hd, ht, ho⟩ := s
  obtain ⟨h1, h2, h3⟩ := h
  have k1 := idx_int
  have k2 := AutoSeq1.sub_tuple_tuple
  have k3 := AutoSeq1.sub_list_list
  have k4 := AutoSeq1.sub_tuple_list
  have k5 := AutoSeq1.sub_list_tuple
  wp_walk using wpAny_loadPart' h1, wpAny_loadPart' h2
  exact ⟨_, rfl, h3⟩
section
variable {X : Cx}
def rCatS (K : PySem.W.Frag) : R2 := fun x y H Q => ∃ l b xs zs, x = .ref l ∧ y = .ref b ∧ SqL K H l xs ∧ SqL K H b zs ∧ xs.length + zs.length ≤ sizeLine ∧ ∀ p, H p = none → Q (.ref p) (upd H p (.lst (xs ++ zs)))
theorem op_catS : OpR X (binaryOp .Add) (rCatS X.K) := by
  intro pins s σ H x y v u Q I rx ry h
  obtain ⟨l, b, xs, zs, rfl, rfl, h1, h2, hz, q⟩ := h
  cases rx
  cases ry
  obtain ⟨its, r, ⟨⟨c, d, dt, sl⟩, n, e, e1, e2, e3⟩, _⟩ := I.list h1
  obtain ⟨its2, r2, ⟨⟨c', d', dt', sl'⟩, n2, e', e1', e2', e3'⟩, _⟩ := I.list h2
  dsimp only at e1 e2 e3 e1' e2' e3'
  subst e1 e2 e3 e1' e2' e3'
  have l1 := r.length
  have l2 := r2.length
  refine concat_meets ⟨_, e, rfl⟩ ⟨_, e', rfl⟩ noFill_list_add seq_list_add F.slot_list_add F.entry_list_add (F.args_list_add_2 _ _) (meets_add l b its.toArray its2.toArray n n2 sl sl' (by rw [List.size_toArray, List.size_toArray]; omega)) ⟨e, e', ?_⟩
  have ea : its.toArray ++ its2.toArray = (its ++ its2).toArray := by simp
  rw [ea]
  exact ⟨.ref _, _, I.lnew (t' := s.toks) (r.append r2) (by rw [List.length_append]; omega), rfl, q _ I.fresh⟩
end
end L3

set_option Elab.async false
set_option linter.all false
set_option maxRecDepth 100000
set_option maxHeartbeats 4000000
/-! a comprehension whose name is a name of the def -/
namespace L3
open PySem PySem.Spec PyProof.Rows L2
/-- the same where the comprehension's name is a name of the def, too: the def's names as the block sees them -/
abbrev cxN (X : Cx) (N' : List Str) (x : Str) (scope : Scope) (cl : List (Str × Addr)) (C : Addr) (s0 : Shared) (H0 : Hp) (fp : List Addr) : Cx :=
  { X with N := x :: N', s₀ := s0, H₀ := H0, env := compEnvC scope cl C X.env, outer := X.stack, ex := fp, fn := fun _ => false, pn := [], xe := fun _ _ => False }
structure CompOkN (X : Cx) (N' : List Str) (x : Str) (scope : Scope) (cl : List (Str × Addr)) : Prop where
  clos : closureFor scope X.env = pure cl
  sub : ∀ y c, cl.lookup y = some c → X.env.cells.lookup y = some c
  has : ∀ y, (relabel scope X.env).names.lookup y = some .cell ∨ (relabel scope X.env).names.lookup y = some .free → ∃ c, cl.lookup y = some c
  nocell : ∀ y ∈ scope.names, y.2 ≠ .cell
  kind : scope.kind = .function
  names : ∀ y ∈ scope.names, y.2 = .local → scope.names.lookup y.1 = some .local
  tgt : scope.names.lookup x = some .local
  cellv : ∀ y ∈ N', Vis (relabel scope X.env) y → ((relabel scope X.env).names.lookup y = some .cell ∨ (relabel scope X.env).names.lookup y = some .free) ∧ (X.env.scope.names.lookup y = some .cell ∨ X.env.scope.names.lookup y = some .free)
  nd : (x :: N').Nodup
  len : N'.length = X.N.length
  at_ : ∀ (i : Nat) (y : Str), N'[i]? = some y → Vis (relabel scope X.env) y → X.N[i]? = some y
section
variable {X : Cx} {N' : List Str} {x : Str} {scope : Scope} {cl : List (Str × Addr)} {wi : TI} {tt : TT} {te : TE} {elt iter : Expr} {ifs : List Expr} {px pos : Pos}
theorem lc_core {use : Option (Value → Sem Unit)} {R : Value → Shared → Prop} {pins : List (Addr × Obj)} {s : Shared} {σ : L2.St} {H : Hp} {Q : VK} {pos' : Pos} (ok : CompOkN X N' x scope cl) (hc : X.calm = true) (hi : PI X (.Name x px) iter wi) (ht : ∀ C s0 H0 fp, PIfs (cxN X N' x scope cl C s0 H0 fp) ifs tt) (he : ∀ C s0 H0 fp, PE (cxN X N' x scope cl C s0 H0 fp) elt te)
    (hf : ∀ v, foldedSetIterable iter X.env v = pure v) (I : Inv X pins σ H s) (h : tLC wi tt te σ H Q)
    (last : ∀ (p C : Addr) (H' : Hp) (s' : Shared), (∃ m, s'.heap.Ns C m) → FpOk X pins H' C → (∀ y c, X.env.cells.lookup y = some c → c ≠ C) → (∀ h', Heap.SameBut C s'.heap h' → Inv X pins σ H' { s' with heap := h' }) → Q (.ref p) H' → compPost (model X.prog X.w) X.A X.xe use R (.ref p) C (.ok .next) s') :
    wpAny (model X.prog X.w) X.A (comprehension (.ListComp elt [⟨.Name x px, iter, ifs, 0⟩] scope pos) scope X.env pos' (newList []) false (eval iter X.env) use) R X.xe s := by
  refine wpAny_comprehension_free (use := use) rfl hf ok.clos ok.kind ok.names (thn (hi pins s σ H _ I h) fun v s1 h1 => thn h1 fun itv s2 h2 => ?_)
  obtain ⟨it, fp, tn, J, H2, e, I2, T, st2, f2, W⟩ := h2
  subst e
  obtain ⟨W, ⟨m0, w0⟩, turn⟩ := W s2.heap.objs.size (I2.hok.fresh (Nat.le_refl _))
  have I3 : Inv X pins σ (upd H2 s2.heap.objs.size (.lst [])) { s2 with heap := s2.heap.push { cls := .type "list", data := .seq ([] : List Value).toArray } } := I2.lnew (t' := s2.toks) (its := []) .nil (Nat.zero_le _)
  refine wpAny_newObj_type ?_
  generalize hs3 : ({ s2 with heap := s2.heap.push { cls := .type "list", data := .seq ([] : List Value).toArray } } : Shared) = s3 at I3
  have hh3 : s3.heap = s2.heap.push { cls := .type "list", data := .seq ([] : List Value).toArray } := by rw [← hs3]
  refine wpAny_newFunctionEnv ok.nocell ((fun y hy => nomatch hy)) (fun h4 ns4 sb4 => ?_) ok.kind
  -- the iterator's objects
  have fpo : ∀ b ∈ fp, ∃ o, s2.heap.get? b = some o := fun b hb => let ⟨o, e, _⟩ := T.obj _ _ st2 b hb; ⟨o, e⟩
  have old : ∀ b o, s3.heap.get? b = some o → h4.get? b = some o := fun b o e => sb4.extBut b o (Nat.ne_of_lt (Heap.lt_size e)) (Heap.get?_push_of_some _ e)
  have fplt : ∀ b ∈ fp, b < s3.heap.objs.size := fun b hb => by
    obtain ⟨o, e⟩ := fpo b hb
    rw [hh3, Heap.size_push]
    exact Nat.lt_succ_of_lt (Heap.lt_size e)
  have fp3 : ∀ b ∈ fp, FpOk X pins (upd H2 s2.heap.objs.size (.lst [])) b := fun b hb => by
    obtain ⟨o, e⟩ := fpo b hb
    refine ⟨?_, (f2 b hb).2⟩
    rw [upd_ne (Nat.ne_of_lt (Heap.lt_size e))]
    exact (f2 b hb).1
  have Cnew : ∀ b o, s3.heap.get? b = some o → b ≠ s3.heap.objs.size := fun b o e => Nat.ne_of_lt (Heap.lt_size e)
  have celln : ∀ y c, X.env.cells.lookup y = some c → c ≠ s3.heap.objs.size := fun y c e => by
    obtain ⟨v, o, ho, _⟩ := I3.cell y c e
    exact Cnew c o ho
  have okC : (cxN X N' x scope cl s3.heap.objs.size s3 (upd H2 s2.heap.objs.size (.lst [])) fp).Ok := by
    refine ⟨I3.ok.mod, ok.kind, I3.ok.glob, I3.ok.blt, Nat.le_refl _, fun y z c e1 e2 => I3.ok.inj y z c (ok.sub y c e1) (ok.sub z c e2), fun y hy => ok.has y hy, (fun y c e => nomatch e), I3.ok.hd, I3.ok.frames, .inl rfl, fun b hb => ?_, I3.bs, Nat.le_trans I3.ok.bsz I3.sz, fun b o e hb => ?_, fun b hb hf => ?_, I3.stack, I3.stkFree⟩
    · exact ⟨Nat.ne_of_lt (fplt b hb), fun y c e => (fp3 b hb).2.2.2.2.1 y c (ok.sub y c e)⟩
    · rcases (fp3 b hb).2.2.2.1 with z | z
      · exact I3.ok.noex b o e z
      · exact absurd (Nat.lt_of_lt_of_le (Heap.lt_size e) (Nat.le_trans I3.ok.bsz z)) (Nat.lt_irrefl _)
    · rcases List.mem_cons.mp (I3.stkSub b hf) with z | z
      · exact (fp3 b hb).2.1 z
      · exact (fp3 b hb).2.2.1 z
  obtain ⟨m3, hn3, hl3⟩ := I3.loc
  have I4 : Inv (cxN X N' x scope cl s3.heap.objs.size s3 (upd H2 s2.heap.objs.size (.lst [])) fp) [] (none :: σ) (upd H2 s2.heap.objs.size (.lst [])) { s3 with heap := h4, toks := s3.toks + 0 } := by
    refine ⟨okC, rfl, I3.bare, Un.kept old, ⟨_, ns4, fun i y v e1 e2 e3 => ?_⟩, fun y c e => ?_, I3.hok.fresh (Nat.le_refl _), fun y c e => I3.freeC y c (ok.sub y c e), (fun p hp => nomatch hp), I3.hok.kept old, ?_⟩
    · cases i with
      | zero => exact nomatch e2
      | succ i =>
        have e0' : N'[i]? = some y := by simpa using e1
        have e1' : X.N[i]? = some y := ok.at_ i y e0' e3
        have e2' : σ[i]? = some (some v) := by simpa using e2
        obtain ⟨kc, ko⟩ := ok.cellv y (List.mem_of_getElem? e0') e3
        have vis : Vis X.env.scope y := ko.elim (fun z => .inr (.inl z)) fun z => .inr (.inr z)
        obtain ⟨u, r, l⟩ := hl3 i y v e1' e2' vis
        refine ⟨u, r, .inr ⟨kc, ?_⟩⟩
        obtain ⟨c, ec⟩ := ok.has y kc
        rcases l with ⟨k, _⟩ | ⟨_, c', ec', z⟩
        · have k' : X.env.scope.names.lookup y = some .local := k
          rcases ko with ko | ko
          · rw [k'] at ko; cases ko
          · rw [k'] at ko; cases ko
        · have e4 := ok.sub y c ec
          rw [ec'] at e4; cases e4
          obtain ⟨o, e, d⟩ := z
          exact ⟨c, ec, o, old _ o e, d⟩
    · obtain ⟨v, o, ho, hd⟩ := I3.cell y c (ok.sub y c e)
      exact ⟨v, o, old c o ho, hd⟩
    · show (none :: σ).length = (x :: N').length
      rw [List.length_cons, List.length_cons, I3.len, ok.len]
  have st4 : tn 0 h4 := T.keep _ _ _ st2 fun b hb o e => old b o (by rw [hh3]; exact Heap.get?_push_of_some _ e)
  have fin : ∀ {σ' : L2.St} {H' : Hp} {s' : Shared}, Inv (cxN X N' x scope cl s3.heap.objs.size s3 (upd H2 s2.heap.objs.size (.lst [])) fp) [] σ' H' s' → Q (.ref s2.heap.objs.size) H' →
      compPost (model X.prog X.w) X.A X.xe use R (.ref s2.heap.objs.size) s3.heap.objs.size (.ok .next) s' := fun {σ' H' s'} J q => by
    obtain ⟨m, hn, _⟩ := J.loc
    have IO : ∀ h', Heap.SameBut s3.heap.objs.size s'.heap h' → Inv X pins σ H' { s' with heap := h' } := fun h' sb => by
      have hC : H' s3.heap.objs.size = none := J.free
      have un : Un (frs X.stack) fp (upd H2 s2.heap.objs.size (.lst [])) H' s3.heap h' := by
        refine ⟨fun b o e z hb hx => ?_, fun b o e z hb hx => ?_, J.base.free, fun b o e hx => ?_, J.base.tups, J.base.frzs, J.base.tbls⟩
        · exact (sb.2 b (Cnew b o e)).trans (J.base.keep b o e z hb hx)
        · obtain ⟨sl, e1⟩ := J.base.slot b o e z hb hx
          exact ⟨sl, (sb.2 b (Cnew b o e)).trans e1⟩
        · obtain ⟨o', e1⟩ := J.base.there b o e hx
          exact ⟨o', (sb.2 b (Cnew b o e)).trans e1⟩
      have hok : HOk X.prog X.w H' h' := fun b ob e => by
        refine (J.hok b ob e).stay (fun c w' hc q => (sb.2 c ?_).trans q) (fun _ q => q) fun _ _ q => q
        intro z
        subst z
        rcases hc with hc | hc
        · rw [← hc, hC] at e; cases e
        · rw [hC] at hc; cases hc
      refine I3.call' (s' := { s' with heap := h' }) (ch := fp) J.os un hok J.bare fun b hb => ?_
      obtain ⟨_, h2, _, h4, h5, h6⟩ := fp3 b hb
      exact ⟨h4, h2, h5, h6⟩
    exact last _ _ H' s' ⟨m, hn⟩ (I3.fpOk (Nat.le_refl _) J.free) celln IO q
  have stat : ∀ {H' : Hp}, (∀ b ∈ fp, H' b = none) → ∀ b ∈ fp, FpOk (cxN X N' x scope cl s3.heap.objs.size s3 (upd H2 s2.heap.objs.size (.lst [])) fp) [] H' b := fun hn b hb =>
    ⟨hn b hb, (okC.exf b hb).1, okC.exfs b hb, .inl hb, (okC.exf b hb).2, (fun p hp => nomatch hp)⟩
  have loop : codeAny (model X.prog X.w) X.A (.compLoop (.ListComp elt [⟨.Name x px, iter, ifs, 0⟩] scope pos) 0 (.ref it) (.ref s2.heap.objs.size) (compEnvC scope cl s3.heap.objs.size X.env))
      (compPost (model X.prog X.w) X.A X.xe use R (.ref s2.heap.objs.size) s3.heap.objs.size) { s3 with heap := h4, toks := s3.toks + 0 } := by
    refine comp_loop (fun n s' => ∃ i xs t H', Inv (cxN X N' x scope cl s3.heap.objs.size s3 (upd H2 s2.heap.objs.size (.lst [])) fp) [] (t :: σ) H' s' ∧ tn i s'.heap ∧ (∀ b ∈ fp, H' b = none) ∧ W i n xs H') ?_ m0 ⟨0, [], none, _, I4, st4, fun b hb => (fp3 b hb).1, w0⟩
    rintro n s5 ⟨i, xs, t, H5, I5, st5, fr5, w5⟩
    obtain ⟨hacc, alt⟩ := turn i n xs H5 w5
    rcases alt with ⟨stop, qn⟩ | ⟨go, step⟩
    · refine thn (T.done (cxN X N' x scope cl s3.heap.objs.size s3 (upd H2 s2.heap.objs.size (.lst [])) fp) rfl rfl rfl hc i [] s5 _ H5 _ I5 (stat fr5) st5 stop) fun r s6 z => ?_
      obtain ⟨hr, I6⟩ := z
      subst hr
      exact fin I6 qn
    · refine thn (T.item (cxN X N' x scope cl s3.heap.objs.size s3 (upd H2 s2.heap.objs.size (.lst [])) fp) rfl rfl rfl hc i [] s5 _ H5 _ I5 (stat fr5) st5 go) fun r s6 z => ?_
      obtain ⟨u, hr, h6⟩ := z
      subst hr
      refine thn h6 fun _ s7 z => ?_
      obtain ⟨y, H7, I7, r7, y7, st7, fr7⟩ := z
      have I7' := I7.pinned (stat fr7) (T.obj _ _ st7)
      have back : ∀ {t8 : Option V} {H8 : Hp} {s8 : Shared}, Inv (cxN X N' x scope cl s3.heap.objs.size s3 (upd H2 s2.heap.objs.size (.lst [])) fp) ([] ++ pinsAt fp s7.heap) (t8 :: σ) H8 s8 →
          Inv (cxN X N' x scope cl s3.heap.objs.size s3 (upd H2 s2.heap.objs.size (.lst [])) fp) [] (t8 :: σ) H8 s8 ∧ tn (i + 1) s8.heap ∧ ∀ b ∈ fp, H8 b = none := fun {t8 H8 s8} I8 => by
        refine ⟨I8.unpinned, T.keep _ _ _ st7 fun b hb o e => (I8.pin (b, o) (List.mem_append_right _ (List.mem_append_right _ (mem_pinsAt hb e)))).1, fun b hb => ?_⟩
        obtain ⟨o, e, d⟩ := T.obj _ _ st7 b hb
        exact (I8.pin (b, o) (List.mem_append_right _ (List.mem_append_right _ (mem_pinsAt hb e)))).2.1
      refine thn (pg_name (X := cxN X N' x scope cl s3.heap.objs.size s3 (upd H2 s2.heap.objs.size (.lst [])) fp) (i := 0) ok.nd rfl (Or.inl (lookup_relabel_local ok.tgt)) (.inr (lookup_relabel_local ok.tgt))
        _ s7 _ H7 y u (fun σ8 H8 => σ8 = some y :: σ ∧ H8 = H7) I7' r7 ⟨rfl, rfl⟩) fun _ s8 z => ?_
      obtain ⟨σ8, H8, I8, e8, e8'⟩ := z
      subst e8 e8'
      refine thn (ht s3.heap.objs.size s3 (upd H2 s2.heap.objs.size (.lst [])) fp _ s8 _ _ _ I8 (step y _ y7)) fun b9 s9 z => ?_
      obtain ⟨H9, I9, q9⟩ := z
      cases b9 with
      | false =>
        obtain ⟨m', hm, w9⟩ := (if_neg Bool.false_ne_true).mp q9
        obtain ⟨J9, st9, fr9⟩ := back I9
        exact ⟨m', hm, i + 1, xs, _, H9, J9, st9, fr9, w9⟩
      | true =>
        refine thn (he s3.heap.objs.size s3 (upd H2 s2.heap.objs.size (.lst [])) fp _ s9 _ H9 _ I9 ((if_pos rfl).mp q9)) fun yv sa z => ?_
        obtain ⟨va, Ha, Ia, ra, ea, za, m', hm, wa⟩ := z
        refine thn (mt_append (X := cxN X N' x scope cl s3.heap.objs.size s3 (upd H2 s2.heap.objs.size (.lst [])) fp) _ sa _ Ha (.ref s2.heap.objs.size) [va] (.ref s2.heap.objs.size) [yv]
          (fun _ Hb => W (i + 1) m' (xs ++ [va]) Hb) Ia rfl (.cons ra .nil) ⟨_, xs, va, rfl, rfl, ea, za, wa⟩) fun _ sb z => ?_
        obtain ⟨_, Hb, Ib, _, wb⟩ := z
        obtain ⟨Jb, stb, frb⟩ := back Ib
        exact ⟨m', hm, i + 1, _, _, Hb, Jb, stb, frb, wb⟩
  subst hs3
  exact codeAny_compStart_list loop (T.self _ 0 _ _ _ st4 loop)
theorem pe_lcN (ok : CompOkN X N' x scope cl) (hc : X.calm = true) (hi : PI X (.Name x px) iter wi) (ht : ∀ C s0 H0 fp, PIfs (cxN X N' x scope cl C s0 H0 fp) ifs tt) (he : ∀ C s0 H0 fp, PE (cxN X N' x scope cl C s0 H0 fp) elt te)
    (hf : ∀ v, foldedSetIterable iter X.env v = pure v := by intro _; rfl) : PE X (.ListComp elt [⟨.Name x px, iter, ifs, 0⟩] scope pos) (tLC wi tt te) := by
  intro pins s σ H Q I h
  rw [eval_ListComp]
  exact lc_core ok hc hi ht he hf I h fun p C H' s' ⟨m, hn⟩ _ _ IO q => ⟨m, hn, fun h' sb => ⟨.ref p, H', IO h' sb, rfl, q⟩⟩
end
end L3

set_option Elab.async false
set_option linter.all false
set_option maxRecDepth 100000
set_option maxHeartbeats 4000000
/-! xs.count(v), xs.index(v) of flat values -/
namespace L3
open PySem PySem.Spec PyProof.Rows L2
section
variable {X : Cx}
def rIndex (K : PySem.W.Frag) : V → List V → Hp → VK → Prop := fun x vs H Q => ∃ (p : Addr) (xs : List V) (v : V) (j : Nat), x = .ref p ∧ vs = [v] ∧ SqL K H p xs ∧ flatV v = true ∧ xs.all flatV = true ∧ j < 1000000 ∧ (∃ y, xs[j]? = some y ∧ eqV y v = true) ∧ (∀ (m : Nat) (y : V), m < j → xs[m]? = some y → eqV y v = false) ∧ Q (.int (j : Int)) H
theorem at_eqU {x : V} : ∀ {xs : List V} {us : List Value}, Vals xs us → xs.all flatV = true → ∀ (i : Nat) (u : Value), us[i]? = some u → ∃ y, xs[i]? = some y ∧ eqU x u = eqV y x
  | _, _, .nil, _ => fun i u h => by simp at h
  | y :: xs, u :: us, .cons r t, f => fun i w h => by
    rw [List.all_cons, Bool.and_eq_true] at f
    cases i with
    | zero => simp at h; subst h; exact ⟨y, rfl, eqU_of r f.1⟩
    | succ i => simpa using at_eqU t f.2 i w (by simpa using h)
theorem mt_index : MtR X "list.index" (rIndex X.K) := by
  intro pins s σ H x vs v us Q I rx rv h
  obtain ⟨p, xs, w, j, rfl, rfl, hq, fw, fs, hj, ⟨y0, hy0, ht⟩, hno, q⟩ := h
  cases rx
  obtain ⟨u, rfl, ru⟩ := rv.one
  obtain ⟨its, r, ⟨⟨c, d, dt, sl⟩, n, e, e1, e2, e3⟩, _⟩ := I.list hq
  dsimp only at e1 e2 e3
  subst e1 e2 e3
  have hl := r.length
  have hjx : j < xs.length := by
    by_cases c : j < xs.length
    · exact c
    · rw [List.getElem?_eq_none (by omega)] at hy0; cases hy0
  have hji : j < its.length := by omega
  have hit : eqU w its.toArray[j] = true := by
    obtain ⟨y, a, b⟩ := at_eqU (x := w) r fs j its[j] (List.getElem?_eq_getElem hji)
    rw [hy0] at a; cases a
    show eqU w its[j] = true
    rw [b, ht]
  have hn : ∀ m (hm : m < its.toArray.size), m < j → eqU w its.toArray[m] = false := fun m hm hmj => by
    have hm' : m < its.length := hm
    obtain ⟨y, a, b⟩ := at_eqU (x := w) r fs m its[m] (List.getElem?_eq_getElem hm')
    show eqU w its[m] = false
    rw [b]; exact hno m y hmj a
  refine call_meets F.slot_list_index ⟨_, e, rfl⟩ F.entry_list_index (F.args_list_index_2 _ _) (SeqAt.list_indexAt p its.toArray n none sl u (eqU w) j hji (by omega) hit hn) ⟨e, fun y hy => mem_eqAt ru fw r fs y (by simpa using hy), ?_⟩
  exact ⟨.int _, H, I.tok _, ⟨_, rfl⟩, q⟩
end
end L3

set_option Elab.async false
set_option linter.all false
set_option maxRecDepth 100000
set_option maxHeartbeats 4000000
/-! name = a comprehension whose name is a name of the def -/
namespace L3
open PySem PySem.Spec PyProof.Rows L2
section
variable {X : Cx} {N' : List Str} {x : Str} {scope : Scope} {cl : List (Str × Addr)} {wi : TI} {tt : TT} {te : TE} {elt iter : Expr} {ifs : List Expr} {px pos : Pos}
end
end L3

set_option Elab.async false
set_option linter.all false
set_option maxRecDepth 100000
set_option maxHeartbeats 4000000
/-! all(l), any(l) of a list of bools -/
namespace L3
open PySem PySem.Spec PyProof.Rows L2
section
variable {X : Cx}
theorem vals_bl : ∀ {bs : List Bool} {us : List Value}, Vals (bs.map V.bl) us → ∀ (i : Nat) (v : Value), us[i]? = some v → ∃ b, bs[i]? = some b ∧ v = .bool b
  | [], _, h => fun i v e => by cases h; simp at e
  | b :: bs, _, h => fun i v e => by
    cases h with
    | cons r t =>
      cases i with
      | zero => simp at e; subst e; cases r; exact ⟨b, rfl, rfl⟩
      | succ i => simpa using vals_bl t i v (by simpa using e)
theorem truth_bl {bs : List Bool} {its : List Value} (d : Bool) (rv : Vals (bs.map V.bl) its) : TruthOf X.prog X.w X.A.in1 (fun i v => its.toArray[i]? = some v) (fun i => (bs[i]?).getD d) := by
  intro j u t R F hu hR
  obtain ⟨b, eb, rfl⟩ := vals_bl rv j u (by simpa using hu)
  dsimp only at hR
  rw [eb] at hR
  exact wpAny_truthy_bool hR
theorem call_all_bl (hc : X.calm = true) : CallR X (.builtin "all") (fun xs H Q => ∃ (p : Addr) (bs : List Bool), xs = [.ref p] ∧ SqL X.K H p (bs.map V.bl) ∧ Q (.bl (bs.all id)) H) := by
  rintro pins s σ H xs us Q I r ⟨p, bs, rfl, hq, q⟩
  obtain ⟨u, rfl, rx⟩ := vals1 r
  cases rx
  obtain ⟨its, rv, pl, _⟩ := I.list hq
  have low : p < s.heap.objs.size := let ⟨_, e, _⟩ := pl.isList; Heap.lt_size e
  have ends : ((List.range its.toArray.size).all fun i => (bs[i]?).getD true) = bs.all id := by
    rw [List.size_toArray, ← rv.length, List.length_map]; exact LSm.range_all bs
  exact call_all_walk (wpAny_pyIter_list pl.isList ⟨_, _, _, _, _, _, _, rfl, Walks.list (A := X.A.in1) (I.ok.hd hc) s.heap.objs.size p (Nat.ne_of_lt low) its.toArray, ⟨⟨_, Heap.get?_push_size _ rfl, rfl, rfl⟩, pl.isList.push _⟩, truth_bl true rv,
    fun _ _ hk => by rw [ends]; exact ⟨.bl _, H, I.kept (LSm.kept_iter hk), rfl, q⟩⟩)
theorem call_any_bl (hc : X.calm = true) : CallR X (.builtin "any") (fun xs H Q => ∃ (p : Addr) (bs : List Bool), xs = [.ref p] ∧ SqL X.K H p (bs.map V.bl) ∧ Q (.bl (bs.any id)) H) := by
  rintro pins s σ H xs us Q I r ⟨p, bs, rfl, hq, q⟩
  obtain ⟨u, rfl, rx⟩ := vals1 r
  cases rx
  obtain ⟨its, rv, pl, _⟩ := I.list hq
  have low : p < s.heap.objs.size := let ⟨_, e, _⟩ := pl.isList; Heap.lt_size e
  have ends : ((List.range its.toArray.size).any fun i => (bs[i]?).getD false) = bs.any id := by
    rw [List.size_toArray, ← rv.length, List.length_map]; exact LSm.range_any bs
  exact call_any_walk (wpAny_pyIter_list pl.isList ⟨_, _, _, _, _, _, _, rfl, Walks.list (A := X.A.in1) (I.ok.hd hc) s.heap.objs.size p (Nat.ne_of_lt low) its.toArray, ⟨⟨_, Heap.get?_push_size _ rfl, rfl, rfl⟩, pl.isList.push _⟩, truth_bl false rv,
    fun _ _ hk => by rw [ends]; exact ⟨.bl _, H, I.kept (LSm.kept_iter hk), rfl, q⟩⟩)
end
end L3

set_option Elab.async false
set_option linter.all false
set_option maxRecDepth 100000
set_option maxHeartbeats 4000000
/-! // of any size -/
namespace L3
open PySem PySem.Spec PyProof.Rows L2
end L3
namespace L2
open PySem PySem.Spec PyProof.Rows
end L2
namespace L3
open PySem PySem.Spec PyProof.Rows L2
end L3

set_option Elab.async false
set_option linter.all false
set_option maxRecDepth 100000
set_option maxHeartbeats 4000000
/-! zip(l, m) in a loop -/
namespace L2
open PySem PySem.Spec PyProof.Rows
end L2

set_option Elab.async false
set_option linter.all false
set_option maxRecDepth 100000
set_option maxHeartbeats 4000000
/-! texts: text * 0 or 1, sep.join(list of texts) -/
namespace L3
open PySem PySem.Spec PyProof.Rows L2
section
variable {X : Cx}
end
end L3

set_option Elab.async false
set_option linter.all false
set_option maxRecDepth 100000
set_option maxHeartbeats 4000000
/-! texts: startswith, a slice, partition, int, one sign after another -/
namespace L3
open PySem PySem.Spec PyProof.Rows L2
section
variable {X : Cx}
end
end L3

set_option Elab.async false
set_option linter.all false
set_option maxRecDepth 100000
set_option maxHeartbeats 4000000
/-! for x in reversed(l), l a list -/
namespace L3
open PySem PySem.Spec PyProof.Rows L2
section
variable {X : Cx} {tg : Expr}
end
end L3

set_option Elab.async false
set_option linter.all false
set_option maxRecDepth 100000
set_option maxHeartbeats 4000000
namespace L3
open PySem PySem.Spec PyProof.Rows L2
section
variable {X : Cx} {x x2 x3 : Str} {kk : Nat} {py pz pt : Pos} {scope : Scope} {cl : List (Str × Addr)} {wi : TI} {tt : TT} {te : TE} {elt iter : Expr} {ifs : List Expr} {px pos : Pos}
end
end L3

set_option Elab.async false
set_option linter.all false
set_option maxRecDepth 100000
set_option maxHeartbeats 4000000
/-! texts: split -/
namespace L3
open PySem PySem.Spec PyProof.Rows L2
section
variable {X : Cx}
end
end L3

set_option Elab.async false
set_option linter.all false
set_option maxRecDepth 100000
set_option maxHeartbeats 4000000
/-! l.insert(k, y), k from 0 to the length -/
namespace L3
open PySem PySem.Spec PyProof.Rows L2
section
variable {X : Cx}
end
end L3

set_option Elab.async false
set_option linter.all false
set_option maxRecDepth 100000
set_option maxHeartbeats 4000000
/-! min(l) of a list of whole numbers -/
namespace L3
open PySem PySem.Spec PyProof.Rows L2
section
variable {X : Cx}
end
end L3

set_option Elab.async false
set_option linter.all false
set_option maxRecDepth 100000
set_option maxHeartbeats 4000000
/-! a refusal that leaves a comprehension -/
namespace L3
open PySem PySem.Spec PyProof.Rows L2
section
variable {P : Program} {w : World} {K : PySem.W.Frag} {mg : Str → Option Value} {base : Heap} {N : List Str} {qual : Str} {scope : Scope} {f : Addr} {cd : Value} {A : Around} {outer : List Env} {s : Shared} {H : Hp} {E : XK}
end
end L3

set_option Elab.async false
set_option linter.all false
set_option maxRecDepth 100000
set_option maxHeartbeats 4000000
/-! a comprehension that a refusal may leave -/
namespace L3
open PySem PySem.Spec PyProof.Rows L2
section
variable {prog : Program} {w : World} {A : Around} {R : Result → Shared → Prop} {s : Shared}
end

section
variable {X : Cx} {N' : List Str} {x : Str} {scope : Scope} {cl : List (Str × Addr)} {wi : TI} {tt : TT} {te : TE} {elt iter : Expr} {ifs : List Expr} {px pos : Pos}
end
end L3

set_option Elab.async false
set_option linter.all false
set_option maxRecDepth 100000
set_option maxHeartbeats 4000000
/-! sum of a list of truths within an except clause -/
namespace L3
open PySem PySem.Spec PyProof.Rows L2
theorem entry_unchain : entryFor table "proto.unchain" = some Builtin.«proto.unchain» := entryFor_of_fast (by kernel_rfl)
section
variable {prog : Program} {w : World} {A : Around} {E : Value → Shared → Prop} {s : Shared}
theorem raise_h {α : Type} {ea x : Addr} {o : Obj} {vs : Array Value} {Q : α → Shared → Prop} (hh : A.handled = some (.ref ea)) (hc : Ctx0 ea s.heap) (ne : x ≠ ea) (hx : s.heap.get? x = some o) (hd : o.data = .fields vs) (hz : 2 < vs.size)
    (k : E (.ref x) { s with heap := s.heap.update x (Obj.mapFields (fun u => u.setIfInBounds 2 (Value.ref ea))) }) : wpAny (model prog w) A (raiseNew (.ref x) : Sem α) Q E s := by
  obtain ⟨oe, ve, c1, c2, c3⟩ := hc
  unfold raiseNew
  refine wpAny_bind (wpAny_handled ?_)
  rw [hh]
  dsimp only
  rw [if_pos (show (Value.ref ea != Value.ref x) = true by simp; exact fun z => ne z.symm)]
  refine wpAny_bind (wpAny_holding (wpAny_runValue (codeAny_builtin entry_unchain ?_)))
  unfold Builtin.«proto.unchain»
  dsimp only
  refine wpAny_bind (wpAny_field c1 c2 c3 ?_)
  rw [if_pos (show (Value.none == Value.none) = true by simp)]
  refine wpAny_bind (wpAny_pure (wpAny_pure ?_))
  show wpAny _ A (setField (.ref x) 2 (.ref ea) >>= fun _ => throw (.ref x)) Q E s
  exact wpAny_bind (wpAny_setField hx hd hz (wpAny_throw k))
theorem next_end_h {it l ea : Addr} {i : Nat} {items : Array Value} {Q : Option Value → Shared → Prop} (hh : A.handled = some (.ref ea)) (hc : Ctx0 ea s.heap) (ni : it ≠ ea)
    (hit : s.heap.IsListIter it l i) (hl : s.heap.IsList l items) (hx : items[i]? = none)
    (hQ : ∀ h', Heap.ExtBut it s.heap h' → Q none { s with heap := h' }) : wpAny (model prog w) A (pyNext (.ref it)) Q E s := by
  obtain ⟨o, ho, hc', hd⟩ := id hit
  obtain ⟨ol, hol, _, nl, hdl⟩ := hl
  unfold pyNext
  refine wpAny_bind (wpAny_attempt (wpAny_callSpecial?_slot (name := Str.ofString "__next__") hit.typeIs slot_listiter_next (wpAny_call_entry slot_listiter_next hit.typeIs entry_listiter_next ?_ (args_listiter_next _))))
  show wpAny _ _ (field (.ref it) 0 >>= _) _ _ s
  refine wpAny_bind (wpAny_field ho hd (x := .ref l) rfl ?_)
  show wpAny _ _ (if (Value.ref l == Value.none) = true then _ else _) _ _ s
  rw [if_neg (by simp)]
  show wpAny _ _ (field (.ref it) 1 >>= _) _ _ s
  refine wpAny_bind (wpAny_field ho hd (x := .int i 0) rfl ?_)
  show wpAny _ _ (seqItems? (.ref l) >>= _) _ _ s
  refine wpAny_bind (wpAny_seqItems hol hdl ?_)
  simp only [Int.toNat_natCast, hx]
  refine wpAny_bind (wpAny_rule (wpAny_bind (wpAny_setField ho hd (by simp) ?_)))
  show wpAny _ _ (newExc (.type "StopIteration") [] >>= _) _ _ _
  refine wpAny_bind ?_
  simp only [newExc, newTuple]
  refine wpAny_bind (wpAny_newObj_type ?_ (by size_fits))
  refine wpAny_bind (m := firstArgMember _ _) (wpAny_of_eq (a := Value.none) (by first | rfl | (simp only [firstArgMember]; rfl)) ?_)
  refine wpAny_newObj_type ?_ (by size_fits)
  obtain ⟨oe, ve, c1, c2, c3⟩ := hc
  have c1' := Heap.get?_push_of_some { cls := .type "tuple", data := .seq ([] : List Value).toArray } ((Heap.get?_update_other s.heap (Obj.mapFields (fun u => u.setIfInBounds 0 Value.none)) ni).trans c1)
  refine raise_h (show A.in1.handled = _ from hh) ⟨oe, ve, Heap.get?_push_of_some _ c1', c2, c3⟩ (Nat.ne_of_gt (Heap.lt_size c1')) (Heap.get?_push_size _ rfl) rfl (by rw [Array.size_append]; exact Nat.lt_of_lt_of_le (show 2 < 6 by decide) (Nat.le_add_right _ _)) ?_
  refine wpAny_bind (wpAny_isInstance (T := "StopIteration") (b := true) ⟨_, Heap.get?_update_self _ (Heap.get?_push_size _ rfl) rfl, rfl⟩ isSubtype_stop ?_)
  refine wpAny_pure (hQ _ fun b o n q => ?_)
  have q' := Heap.get?_push_of_some { cls := .type "tuple", data := .seq ([] : List Value).toArray } ((Heap.get?_update_other s.heap (Obj.mapFields (fun u => u.setIfInBounds 0 Value.none)) (Ne.symm n)).trans q)
  rw [Heap.get?_update_other _ _ (Nat.ne_of_gt (Heap.lt_size q'))]
  exact Heap.get?_push_of_some _ q'
end
end L3

set_option Elab.async false
set_option linter.all false
set_option maxRecDepth 100000
set_option maxHeartbeats 4000000
/-! sum of a list of truths within an except clause: the loop, the call -/
namespace L3
open PySem PySem.Spec PyProof.Rows L2
def cntB : List Bool → Int
  | [] => 0
  | b :: r => (if b then 1 else 0) + cntB r
section
variable {prog : Program} {w : World} {A : Around} {R : Result → Shared → Prop}
theorem sum_loop_h {it S l ea : Addr} {items : Array Value} (hh : A.handled = some (.ref ea)) (n1 : it ≠ ea) (n2 : S ≠ ea) (n3 : S ≠ it) (n4 : l ≠ it) (n5 : l ≠ S) :
    ∀ (rest : List Bool) (i : Nat) (acc : Int) (s : Shared) (tA : Tok) (c : Nat), (items.toList.drop i = rest.map Value.bool) → 0 ≤ acc → acc + rest.length ≤ 1000 → s.heap.IsListIter it l i → s.heap.IsList l items → Ctx0 ea s.heap → s.heap.get? S = some { cls := .type "list", dict := none, data := .seq #[.int acc tA] c, slots := #[] } →
      (∀ h' tk t', (∀ b o, b ≠ it → b ≠ S → s.heap.get? b = some o → h'.get? b = some o) → R (.ok (.ret (.int (acc + cntB rest) t'))) { s with heap := h', toks := tk }) → codeAny (model prog w) A (.builtin "sum.loop" ⟨[.ref it, .ref S, rawInt 0, rawInt 0], []⟩) R s := by
  intro rest
  induction rest with
  | nil =>
    intro i acc s tA c hd a0 a1 hit hl hc hS hR
    have hx : items[i]? = none := by
      rw [← Array.getElem?_toList, List.getElem?_eq_none]
      have := congrArg List.length hd
      rw [List.length_drop] at this
      simp at this
      simp; omega
    refine codeAny_builtin F.entry_sum_loop ?_
    rw [Around.under_plainId F.plain_sum_loop _]
    show wpAny _ A.in1 (seqItems? (.ref S) >>= _) _ _ s
    refine wpAny_bind (wpAny_seqItems hS rfl ?_)
    show wpAny _ A.in1 (tryCatch (pyNext (.ref it)) _ >>= _) _ _ s
    refine wpAny_bind (wpAny_tryCatch (next_end_h (A := A.in1) hh hc n1 hit hl hx fun h' ext => ?_))
    have := hR h' s.toks tA fun b o b1 _ q => ext b o b1 q
    rw [show acc + cntB [] = acc by show acc + 0 = acc; omega] at this
    exact wpAny_pure this
  | cons b rest ih =>
    intro i acc s tA c hd a0 a1 hit hl hc hS hR
    have hx : items[i]? = some (.bool b) := by
      rw [← Array.getElem?_toList]
      have := congrArg List.head? hd
      rw [List.head?_drop] at this
      exact this
    have hd' : items.toList.drop (i + 1) = rest.map Value.bool := by
      have := congrArg List.tail hd
      rw [List.tail_drop] at this
      exact this
    refine codeAny_builtin F.entry_sum_loop ?_
    rw [Around.under_plainId F.plain_sum_loop _]
    show wpAny _ A.in1 (seqItems? (.ref S) >>= _) _ _ s
    refine wpAny_bind (wpAny_seqItems hS rfl ?_)
    show wpAny _ A.in1 (tryCatch (pyNext (.ref it)) _ >>= _) _ _ s
    refine wpAny_bind (wpAny_tryCatch (wpAny_pyNext_list_item hit hl hx fun h' hit' sb => ?_))
    have hS' : h'.get? S = some { cls := .type "list", dict := none, data := .seq #[.int acc tA] c, slots := #[] } := (sb.2 S n3).trans hS
    obtain ⟨v, hv⟩ : ∃ v : Int, v = (if b then 1 else 0) := ⟨_, rfl⟩
    have v1 : 0 ≤ v ∧ v ≤ 1 := by rw [hv]; split <;> omega
    rw [List.length_cons] at a1
    show wpAny _ A.in1 (if (_ : Bool) = true then (mkInt (acc + (if b then 1 else 0)) >>= _) else _) _ _ _
    rw [← hv]
    rw [if_pos (by
      have e1 : (-(2 ^ 63) ≤ v && v < 2 ^ 63) = true := by simp; omega
      have e2 : (-(2 ^ 63) ≤ acc + v && acc + v < 2 ^ 63) = true := by simp; omega
      first | exact Bool.and_eq_true_iff.mpr ⟨e1, e2⟩ | simp [e1, e2])]
    refine wpAny_bind (wpAny_mkInt ?_)
    show wpAny _ A.in1 (updateSeq S (fun _ => #[.int (acc + v) _]) >>= _) _ _ _
    refine wpAny_bind (wpAny_updateSeq hS' rfl (wpAny_pure ⟨plainId_quiet F.plain_sum_loop _, ih (i + 1) (acc + v) _ s.toks _ hd' (by omega) (by omega) ?_ ?_ ?_ (Heap.get?_update_self _ hS' rfl) fun h'' tk t' k => ?_⟩))
    · obtain ⟨o, q1, q2⟩ := hit'
      exact ⟨o, (Heap.get?_update_other _ _ n3).trans q1, q2⟩
    · obtain ⟨o, q1, q2⟩ := hl
      exact ⟨o, (Heap.get?_update_other _ _ (Ne.symm n5)).trans ((sb.2 l n4).trans q1), q2⟩
    · obtain ⟨o, vs, q1, q2⟩ := hc
      exact ⟨o, vs, (Heap.get?_update_other _ _ n2).trans ((sb.2 ea (Ne.symm n1)).trans q1), q2⟩
    · have := hR h'' tk t' fun b o b1 b2 q => k b o b1 b2 ((Heap.get?_update_other _ _ (Ne.symm b2)).trans ((sb.2 b b1).trans q))
      rw [show acc + v + cntB rest = acc + cntB (b :: rest) by show _ = acc + ((if b then 1 else 0) + cntB rest); rw [← hv]; omega]
      exact this
end
end L3

set_option Elab.async false
set_option linter.all false
set_option maxRecDepth 100000
set_option maxHeartbeats 4000000
namespace L3
open PySem PySem.Spec PyProof.Rows L2
section
variable {X : Cx}
theorem vals_bls : ∀ {bs : List Bool} {us : List Value}, Vals (bs.map V.bl) us → us = bs.map Value.bool
  | [], _, h => by cases h; rfl
  | b :: bs, _, h => by
    cases h with
    | cons r t =>
      rw [List.map_cons, ← vals_bls t]
      exact congrArg (· :: _) r
theorem call_sum_bl {ea : Addr} (hA : X.A.handled = some (.ref ea)) : CallR X (.builtin "sum") (fun xs H Q => ∃ (p : Addr) (bs : List Bool) (C : Value), xs = [.ref p] ∧ SqL X.K H p (bs.map V.bl) ∧ bs.length ≤ 1000 ∧ H ea = some (excO ea C) ∧ Q (.int (cntB bs)) H) := by
  rintro pins s σ H xs us Q I r ⟨p, bs, C, rfl, hq, bl, hx, q⟩
  obtain ⟨u, rfl, rx⟩ := vals1 r
  cases rx
  obtain ⟨its, rv, pl, _⟩ := I.list hq
  have := vals_bls rv
  subst this
  have hl : s.heap.IsList p (bs.map Value.bool).toArray := pl.isList
  obtain ⟨⟨oe, e1, _, ve, e3, e4⟩, _, _⟩ := I.hok ea _ hx
  have lp : p < s.heap.objs.size := by obtain ⟨o, q1, _⟩ := hl; exact Heap.lt_size q1
  have le : ea < s.heap.objs.size := Heap.lt_size e1
  refine call_function_tree F.kind_sum F.plain_sum F.entry_sum (F.args_sum1 _) ?_
  unfold Builtin.«sum»
  simp only [List.length_cons, List.length_nil]
  rw [if_neg (by decide)]
  refine wpAny_bind (wpAny_of_eq (show Builtin.Builtins.bindParams "sum" ["start"] 0 { } = pure [none] from rfl) (wpAny_bind (wpAny_pyIter_list hl (wpAny_bind (wpAny_mkInt (wpAny_bind (wpAny_pure ?_)))))))
  simp only [List.forIn_cons, List.forIn_nil]
  have isn : ∀ {α : Type} {T : String} {f : Bool → Sem α} {Q' : α → Shared → Prop} {E' : Value → Shared → Prop} {s' : Shared} {i : Int} {t : Tok}, isSubtype (.type "int") (.type T) = pure false → wpAny (model X.prog X.w) X.A.in1 (f false) Q' E' s' → wpAny (model X.prog X.w) X.A.in1 (isInstance (.int i t) (.type T) >>= f) Q' E' s' := fun h k => wpAny_bind (wpAny_isInstance (T := "int") (b := false) (typeIs_int _ _ _) h k)
  refine wpAny_bind (wpAny_bind (isn PySem.sub_int_str ?_))
  simp only [Bool.false_eq_true, if_false]
  refine wpAny_pure (wpAny_bind (isn PySem.sub_int_bytes ?_))
  simp only [Bool.false_eq_true, if_false]
  refine wpAny_pure (wpAny_bind (isn PySem.sub_int_bytearray ?_))
  simp only [Bool.false_eq_true, if_false]
  refine wpAny_pure (wpAny_pure (wpAny_bind (wpAny_newObj_type ?_)))
  have sz : ∀ (h : Heap) (o : Obj), (h.push o).objs.size = h.objs.size + 1 := fun h o => Heap.size_push ..
  refine wpAny_pure ⟨plainId_quiet F.plain_sum_loop _, sum_loop_h (it := s.heap.objs.size) (l := p) (ea := ea) (items := (bs.map Value.bool).toArray) hA (Nat.ne_of_gt le) ?_ ?_ (Nat.ne_of_lt lp) ?_ bs 0 0 _ s.toks _ (by simp) (Int.le_refl _) (by omega) ?_ ?_ ?_ (Heap.get?_push_size _ rfl) fun h' tk t' k => ?_⟩
  · rw [sz]; exact Nat.ne_of_gt (Nat.lt_succ_of_lt le)
  · rw [sz]; exact Nat.succ_ne_self _
  · rw [sz]; exact Nat.ne_of_lt (Nat.lt_succ_of_lt lp)
  · exact ⟨_, Heap.get?_push_of_some _ (Heap.get?_push_size _ rfl), rfl, rfl⟩
  · obtain ⟨o, q1, q2⟩ := hl
    exact ⟨o, Heap.get?_push_of_some _ (Heap.get?_push_of_some _ q1), q2⟩
  · exact ⟨oe, ve, Heap.get?_push_of_some _ (Heap.get?_push_of_some _ e1), e3, e4⟩
  · have hk : ∀ b o, s.heap.get? b = some o → h'.get? b = some o := fun b o g => by
      have lb := Heap.lt_size g
      exact k b o (Nat.ne_of_lt lb) (by rw [sz]; exact Nat.ne_of_lt (Nat.lt_succ_of_lt lb)) (Heap.get?_push_of_some _ (Heap.get?_push_of_some _ g))
    rw [Int.zero_add]
    exact ⟨.int _, H, I.kept hk, ⟨t', rfl⟩, q⟩
end
end L3

set_option Elab.async false
set_option linter.all false
set_option maxRecDepth 100000
set_option maxHeartbeats 4000000
namespace L2
open PySem PySem.Spec PyProof.Rows
section
variable {κ : Type} [DecidableEq κ]
def valV (kvs : List (κ × V)) (k : κ) : Option V := (kvs.find? fun kv => decide (kv.1 = k)).map (·.2)
/-- in its place, or at the end -/
def putK (kvs : List (κ × V)) (k : κ) (v : V) : List (κ × V) :=
  if (kvs.any fun kv => decide (kv.1 = k)) = true then kvs.map (fun kv => if kv.1 = k then (kv.1, v) else kv) else kvs ++ [(k, v)]
theorem valV_pos {p : κ × V} {r : List (κ × V)} {k : κ} (e : p.1 = k) : valV (p :: r) k = some p.2 := by simp [valV, List.find?_cons, e]
theorem valV_neg {p : κ × V} {r : List (κ × V)} {k : κ} (e : ¬ p.1 = k) : valV (p :: r) k = valV r k := by simp [valV, List.find?_cons, e]
theorem valV_any (k : κ) : ∀ kvs : List (κ × V), (kvs.any fun kv => decide (kv.1 = k)) = (valV kvs k).isSome
  | [] => rfl
  | p :: r => by
    rw [List.any_cons]
    by_cases e : p.1 = k
    · simp only [valV_pos e, decide_eq_true e, Bool.true_or, Option.isSome_some]
    · rw [valV_neg e, decide_eq_false e, Bool.false_or]; exact valV_any k r
theorem length_putK (kvs : List (κ × V)) (k : κ) (v : V) : (putK kvs k v).length ≤ kvs.length + 1 := by
  unfold putK
  split
  · rw [List.length_map]; omega
  · rw [List.length_append, List.length_cons, List.length_nil]; omega
theorem RelO.isSome_eq {o : Option V} {u : Option Value} (r : RelO o u) : o.isSome = u.isSome := by
  cases o with
  | none => cases u with
    | none => rfl
    | some _ => exact (show False from r).elim
  | some _ => cases u with
    | none => exact (show False from r).elim
    | some _ => rfl
theorem KV.any {kvs : List (κ × V)} {vs : List (κ × Value)} (r : KV kvs vs) (k : κ) : (kvs.any fun kv => decide (kv.1 = k)) = vs.any fun kv => decide (kv.1 = k) := by
  unfold KV at r
  induction r with
  | nil => rfl
  | cons h t ih => rw [List.any_cons, List.any_cons, ih, h.1]
theorem KV.repl {kvs : List (κ × V)} {vs : List (κ × Value)} (r : KV kvs vs) (k : κ) {y : V} {u : Value} (ry : RelV y u) :
    KV (kvs.map fun kv => if kv.1 = k then (kv.1, y) else kv) (vs.map fun kv => if kv.1 = k then (kv.1, u) else kv) := by
  unfold KV at r ⊢
  induction r with
  | nil => exact .nil
  | @cons p q ps qs h t ih =>
    rw [List.map_cons, List.map_cons]
    refine .cons ?_ ih
    obtain ⟨h1, h2⟩ := h
    by_cases e : p.1 = k
    · rw [if_pos e, if_pos (h1.symm.trans e)]; exact ⟨h1, ry⟩
    · rw [if_neg e, if_neg (fun z => e (h1.trans z))]; exact ⟨h1, h2⟩
theorem KV.put {kvs : List (κ × V)} {vs : List (κ × Value)} (r : KV kvs vs) (k : κ) {y : V} {u : Value} (ry : RelV y u) : KV (putK kvs k y) (stored vs k u) := by
  unfold putK stored
  rw [r.any k]
  by_cases e : (vs.any fun kv => decide (kv.1 = k)) = true
  · rw [if_pos e, if_pos e]; exact r.repl k ry
  · rw [if_neg e, if_neg e]; exact Paired.snoc r ⟨rfl, ry⟩
theorem KV.length {kvs : List (κ × V)} {vs : List (κ × Value)} (r : KV kvs vs) : kvs.length = vs.length := Paired.length r
end


/-! ### a tracked dict, its keys ints and texts or tuples of these -/
theorem kV_is {P : Program} {w : World} {k : Key} {u : Value} (r : RelV (kV k) u) : (mixKind P w).is k u = true := by
  cases k with
  | inl i => obtain ⟨t, e⟩ := (show ∃ t, u = Value.int i t from r); subst e; exact mixKind_int P w i t
  | inr x => obtain ⟨t, e⟩ := (show ∃ t, u = Value.str x t from r); subst e; exact mixKind_str P w x t
theorem items_are {P : Program} {w : World} : ∀ {ks : List Key} {us : List Value}, Vals (ks.map kV) us → ItemsAre (mixKind P w) ks us
  | [], _, r => by rw [List.map_nil] at r; cases r; exact .nil
  | k :: ks, _, r => by
    rw [List.map_cons] at r
    cases r with
    | cons h t => exact .cons (kV_is h) (items_are t)

/-- raw entries of a dict with tuple keys -/
abbrev KT (H : Hp) : List (List Key × V) → List (List Key × Addr × Value) → Prop := Paired fun p q => p.1 = q.1 ∧ H q.2.1 = some (.tup (p.1.map kV)) ∧ RelV p.2 q.2.2
theorem KT.val {H : Hp} {kvs : List (List Key × V)} {xs : List (List Key × Addr × Value)} (r : KT H kvs xs) (k : List Key) : RelO (valV kvs k) ((atKey xs k).map (·.2)) := by
  induction r with
  | nil => exact True.intro
  | @cons p q ps qs h t ih =>
    obtain ⟨h1, _, h2⟩ := h
    by_cases e : p.1 = k
    · have e' : q.1 = k := h1.symm.trans e
      have b : atKey (q :: qs) k = some q.2 := by simp [atKey, List.find?_cons, e']
      rw [valV_pos e, b]; exact h2
    · have e' : ¬ q.1 = k := fun z => e (h1.trans z)
      have b : atKey (q :: qs) k = atKey qs k := by simp [atKey, List.find?_cons, e']
      rw [valV_neg e, b]; exact ih
theorem KT.repl {H : Hp} {kvs : List (List Key × V)} {xs : List (List Key × Addr × Value)} (r : KT H kvs xs) (k : List Key) {y : V} {u : Value} (ry : RelV y u) :
    KT H (kvs.map fun kv => if kv.1 = k then (kv.1, y) else kv) (xs.map (putAt k u)) := by
  induction r with
  | nil => exact .nil
  | @cons p q ps qs h t ih =>
    rw [List.map_cons, List.map_cons]
    refine .cons ?_ ih
    obtain ⟨h1, h2, h3⟩ := h
    unfold putAt
    by_cases e : p.1 = k
    · rw [if_pos e, if_pos (h1.symm.trans e)]; exact ⟨h1, h2, ry⟩
    · rw [if_neg e, if_neg (fun z => e (h1.trans z))]; exact ⟨h1, h2, h3⟩
theorem KT.put {H : Hp} {kvs : List (List Key × V)} {xs : List (List Key × Addr × Value)} (r : KT H kvs xs) (k : List Key) {b : Addr} {y : V} {u : Value} (hb : H b = some (.tup (k.map kV))) (ry : RelV y u) :
    KT H (putK kvs k y) (storedH xs k b u) := by
  have e : (kvs.any fun kv => decide (kv.1 = k)) = (atKey xs k).isSome := by
    rw [valV_any, (r.val k).isSome_eq, Option.isSome_map]
  unfold putK storedH
  rw [e]
  by_cases q : (atKey xs k).isSome = true
  · rw [if_pos q, if_pos q]; exact r.repl k ry
  · rw [if_neg q, if_neg q]; exact Paired.snoc r ⟨rfl, hb, ry⟩
theorem KT.keeps {H H' : Hp} {kvs : List (List Key × V)} {xs : List (List Key × Addr × Value)} (r : KT H kvs xs) (ht : ∀ b ys, H b = some (.tup ys) → H' b = some (.tup ys)) : KT H' kvs xs :=
  Paired.mapP r fun _ _ z => ⟨z.1, ht _ _ z.2.1, z.2.2⟩

section
variable {P : Program} {w : World} {H : Hp} {h : Heap} {a : Addr}
theorem rd_of {u : HO} (ok : HOk P w H h) (e : Rd H a u) : ObjOk P w H h a u := e.ok ok
theorem dk_rd {kvs : List (Key × V)} (ok : HOk P w H h) (e : Rd H a (.dK kvs)) : kvs.length ≤ sizeLine ∧ (a == sysModules) = false ∧ ∃ vs, KV kvs vs ∧ h.DictOf (mixKind P w) a vs :=
  show ObjOk P w H h a (.dK kvs) from rd_of ok e
theorem dk_of {kvs : List (Key × V)} (ok : HOk P w H h) (e : H a = some (.dK kvs)) : kvs.length ≤ sizeLine ∧ (a == sysModules) = false ∧ ∃ vs, KV kvs vs ∧ h.DictOf (mixKind P w) a vs := dk_rd ok (.inl e)
/-- a tracked tuple of ints and texts is a key -/
theorem key_of {ks : List Key} (ok : HOk P w H h) (e : H a = some (.tup (ks.map kV))) : (tupleKind (mixKind P w)).is h ks a := by
  obtain ⟨_, its, r, o, h1, h2, n, h3⟩ := (show ObjOk P w H h a (.tup (ks.map kV)) from ok a _ e)
  exact ⟨o, its.toArray, n, h1, h2, h3, by simpa using items_are r⟩
theorem dt_rd {kvs : List (List Key × V)} (ok : HOk P w H h) (e : Rd H a (.dT kvs)) : kvs.length ≤ sizeLine ∧ (a == sysModules) = false ∧
    ∃ xs, KT H kvs xs ∧ h.DictOfH (tupleKind (mixKind P w)) a xs := by
  obtain ⟨z, y, xs, r, o, es, ep, h1, h2, h3, h4, h5⟩ := (show ObjOk P w H h a (.dT kvs) from rd_of ok e)
  refine ⟨z, y, xs, r, o, es, ep, h1, h2, h3, h4, fun x hx => ?_, h5⟩
  have all : ∀ {l : List (List Key × V)} {m : List (List Key × Addr × Value)}, KT H l m → ∀ x ∈ m, (tupleKind (mixKind P w)).is h x.1 x.2.1 := by
    intro l m q
    induction q with
    | nil => intro x hx; exact nomatch hx
    | @cons p q ps qs hq t ih =>
      intro x hx
      rcases List.mem_cons.mp hx with e | hx
      · subst e
        exact key_of ok (by rw [← hq.1]; exact hq.2.1)
      · exact ih x hx
  exact all r x hx
theorem dt_of {kvs : List (List Key × V)} (ok : HOk P w H h) (e : H a = some (.dT kvs)) : kvs.length ≤ sizeLine ∧ (a == sysModules) = false ∧
    ∃ xs, KT H kvs xs ∧ h.DictOfH (tupleKind (mixKind P w)) a xs := dt_rd ok (.inl e)
end

/-- the heap behind a[y] = v -/
def DPut (H : Hp) (a : Addr) (y v : V) (H' : Hp) : Prop :=
  (∃ kvs k, H a = some (.dK kvs) ∧ y = kV k ∧ kvs.length < sizeLine ∧ H' = upd H a (.dK (putK kvs k v))) ∨
  ∃ kvs k b, H a = some (.dT kvs) ∧ y = .ref b ∧ H b = some (.tup (k.map kV)) ∧ kvs.length < sizeLine ∧ H' = upd H a (.dT (putK kvs k v))
theorem DPut.k {H : Hp} {a : Addr} {kvs : List (Key × V)} {k : Key} {v : V} (e : H a = some (.dK kvs)) (hl : kvs.length < sizeLine) : DPut H a (kV k) v (upd H a (.dK (putK kvs k v))) := .inl ⟨kvs, k, e, rfl, hl, rfl⟩
section
variable {X : Cx} {pins : List (Addr × Obj)} {σ : St} {H : Hp} {s : Shared} {a : Addr} {y v : V} {u r : Value} {o : Option V} {A : Around} {E : Value → Shared → Prop}

theorem Inv.big (I : Inv X pins σ H s) : sysModules < s.heap.objs.size := by
  have h : mainGlobals < s.heap.objs.size := (I.mod.glob.keeps I.bk).lt
  exact Nat.lt_trans (by decide) h

/-- a dict's object is replaced -/
theorem d_write {h' : Heap} {t' : Nat} {ob : HO} (I : Inv X pins σ H s) (mu : Mut (H a)) (hs : Heap.SameBut a s.heap h') (he : ∃ q, h'.get? a = some q) (new : ObjOk X.prog X.w (upd H a ob) h' a ob) :
    Inv X pins σ (upd H a ob) { s with heap := h', toks := t' } :=
  I.write (x := a) (e := a) mu (.inl rfl) (fun b q hb z => (hs.2 b hb).trans z) he new
theorem dk_new {P : Program} {w : World} {H' : Hp} {h' : Heap} {kvs : List (Key × V)} {vs : List (Key × Value)} (z : kvs.length ≤ sizeLine) (hd : (a == sysModules) = false) (rel : KV kvs vs) (dd : h'.DictOf (mixKind P w) a vs) :
    ObjOk P w H' h' a (.dK kvs) := ⟨z, hd, vs, rel, dd⟩
/-- d[y] = v -/
theorem d_setItem {H' : Hp} {Q : Unit → Shared → Prop} (hu : A.units + 1 < cLine) (I : Inv X pins σ H s) (g : DPut H a y v H') (ry : RelV y u) (rv : RelV v r) (h : ∀ s', Inv X pins σ H' s' → Q () s') :
    wpAny (model X.prog X.w) A (setItem (.ref a) u r) Q E s := by
  rcases g with ⟨kvs, k, e, ey, l, eH⟩ | ⟨kvs, k, b, e, ey, eb, l, eH⟩
  · subst ey eH
    obtain ⟨z, hd, vs, rel, dd⟩ := dk_of I.hok e
    have hz : vs.length ≤ sizeLine := by rw [← rel.length]; exact z
    have hl : (putK kvs k v).length ≤ sizeLine := by have := length_putK kvs k v; omega
    refine wpAny_setItem_pairs (hsz := hz) (kV_is ry) dd fun h' dd' hs => h _ ?_
    have he : ∃ q, h'.get? a = some q := let ⟨q, _, _, hq, _⟩ := dd'; ⟨q, hq⟩
    exact d_write I (by rw [e]; exact True.intro) hs he (dk_new hl hd (rel.put k rv) dd')
  · subst ey eH
    cases (show u = Value.ref b from ry)
    obtain ⟨z, hd, xs, rel, dd⟩ := dt_of I.hok e
    have hz : xs.length ≤ sizeLine := by rw [← Paired.length rel]; exact z
    have hl : (putK kvs k v).length ≤ sizeLine := by have := length_putK kvs k v; omega
    refine wpAny_setItem_heap (hsz := hz) (tupleKind_room_in1 hu) (key_of I.hok eb) dd fun h' dd' hs => h _ ?_
    obtain ⟨q, es, ep, hq, h2, h3, h4, _, h5⟩ := dd'
    refine d_write I (by rw [e]; exact True.intro) hs ⟨q, hq⟩ ⟨hl, hd, _, (rel.put k eb rv).keeps fun c ys ec => ?_, q, es, ep, hq, h2, h3, h4, h5⟩
    rw [upd_ne (ne_of ec e (fun z => nomatch z))]
    exact ec
end

section
variable {X : Cx} {pins : List (Addr × Obj)} {σ : St} {H : Hp} {s : Shared} {a : Addr} {kvs : List (Key × V)} {k : Key} {u : Value} {A : Around} {E : Value → Shared → Prop}
end


/-! ### readings and rules -/
/-- d[y] = v -/
def sDPut (td ty tv : TE) : TS := fun D σ H => tv σ H fun v H1 => td σ H1 fun x H2 => ty σ H2 fun y H3 => ∃ a H4, x = .ref a ∧ DPut H3 a y v H4 ∧ D.nx σ H4
section
variable {X : Cx} {o i e value : Expr} {pos pos' tpos : Pos} {td ty tv : TE}
theorem ps_dput (hu : X.A.units + 1 < cLine) (ho : PE X o td) (hi : PE X i ty) (hv : PE X value tv) (hs : swapsWith value (some (.Subscript o i pos')) pos.line X.env = pure false) :
    PS X (.Assign [.Subscript o i pos'] value pos) (sDPut td ty tv) := by
  intro pins s σ H D I h
  refine wpAny_Assign_Subscript (thn (hv pins s σ H _ I h) fun r s1 ⟨v, H1, I1, rv, q1⟩ => thn (ho pins s1 σ H1 _ I1 q1) fun u s2 ⟨x, H2, I2, rx, q2⟩ => thn (hi pins s2 σ H2 _ I2 q2) fun iv s3 ⟨y, H3, I3, ry, a, H4, ex, g, q3⟩ => ?_) hs
  subst ex
  obtain rfl : u = Value.ref a := rx
  exact d_setItem hu I3 g ry rv fun s4 I4 => ⟨σ, H4, I4, q3⟩
end


/-! ### displays -/
theorem dk_empty {P : Program} {w : World} {H : Hp} (h : Heap) (hb : sysModules < h.objs.size) : ObjOk P w H (h.push { cls := .type "dict", data := .dict #[] }) h.objs.size (.dK []) :=
  ⟨Nat.zero_le _, beq_eq_false_iff_ne.mpr (Ne.symm (Nat.ne_of_lt hb)), [], .nil, Heap.DictOf.new h⟩
/-- {}, to be a dict of the kind that is wanted -/
def tDNewK : TE := fun _ H Q => ∀ p, H p = none → Q (.ref p) (upd H p (.dK []))
section
variable {X : Cx} {pos : Pos}
theorem pe_dnewK : PE X (.Dict [] [] pos) tDNewK := fun pins s σ H Q I h =>
  wpAny_Dict_empty ⟨.ref s.heap.objs.size, _, I.laid (a := s.heap.objs.size) (o := .dK []) (t' := s.toks) (fun _ _ q => Heap.get?_push_of_some _ q) (Nat.le_refl _) (dk_empty s.heap I.big), rfl, h _ (I.hok.fresh (Nat.le_refl _))⟩
end

/-- the pairs of a display, from the left -/
def tPairs : List (TE × TE) → St → Hp → (List (V × V) → Hp → Prop) → Prop
  | [], _, H, Q => Q [] H
  | (tk, tv) :: r, σ, H, Q => tk σ H fun x H1 => tv σ H1 fun y H2 => tPairs r σ H2 fun ps H3 => Q ((x, y) :: ps) H3
abbrev VV : List (V × V) → List (Value × Value) → Prop := Paired fun p q => RelV p.1 q.1 ∧ RelV p.2 q.2
def PPs (X : Cx) (pos : Pos) (keys : List (Option Expr)) (values : List Expr) (trs : List (TE × TE)) : Prop :=
  ∀ (pins : List (Addr × Obj)) (s : Shared) (σ : St) (H : Hp) (Q : List (V × V) → Hp → Prop), Inv X pins σ H s → tPairs trs σ H Q →
    wpAny (model X.prog X.w) X.A (evalPairs (pairTrees keys values X.env pos)) (fun vs s' => ∃ ps H', Inv X pins σ H' s' ∧ VV ps vs ∧ Q ps H') X.xe s
theorem pps_nil {X : Cx} {pos : Pos} : PPs X pos [] [] [] := fun pins s σ H Q I h => pairTrees_nil_walk ⟨[], H, I, .nil, h⟩
theorem pps_cons {X : Cx} {pos : Pos} {k v : Expr} {ks : List (Option Expr)} {vs : List Expr} {tk tv : TE} {trs : List (TE × TE)} (hk : PE X k tk) (hv : PE X v tv) (hr : PPs X pos ks vs trs) :
    PPs X pos (some k :: ks) (v :: vs) ((tk, tv) :: trs) := fun pins s σ H Q I h =>
  pairTrees_cons_walk (thn (hk pins s σ H _ I h) fun u s1 ⟨x, H1, I1, rx, q1⟩ => thn (hv pins s1 σ H1 _ I1 q1) fun w2 s2 ⟨y, H2, I2, ry, q2⟩ =>
    thn (hr pins s2 σ H2 _ I2 q2) fun ws s3 ⟨ps, H3, I3, rel, q3⟩ => ⟨(x, y) :: ps, H3, I3, .cons ⟨rx, ry⟩ rel, q3⟩)

def mergeK (kvs more : List (Key × V)) : List (Key × V) := more.foldl (fun acc kv => putK acc kv.1 kv.2) kvs
theorem KV.merge : ∀ {more : List (Key × V)} {rs : List (Key × Value)} {kvs : List (Key × V)} {vs : List (Key × Value)}, KV more rs → KV kvs vs → KV (mergeK kvs more) (merged vs rs) := by
  intro more rs kvs vs r
  unfold KV at r
  induction r generalizing kvs vs with
  | nil => intro q; exact q
  | @cons p q ps qs h t ih =>
    intro r0
    have e : KV (putK kvs p.1 p.2) (stored vs q.1 q.2) := by
      have := r0.put p.1 h.2
      rw [← h.1]; exact this
    exact ih e
theorem length_mergeK : ∀ (more kvs : List (Key × V)), (mergeK kvs more).length ≤ kvs.length + more.length
  | [], kvs => by show kvs.length ≤ kvs.length + 0; omega
  | p :: r, kvs => by
    have h1 := length_mergeK r (putK kvs p.1 p.2)
    have h2 := length_putK kvs p.1 p.2
    show (mergeK (putK kvs p.1 p.2) r).length ≤ _
    rw [List.length_cons]; omega
theorem carries_of {P : Program} {w : World} : ∀ {kvs : List (Key × V)} {ws : List (Value × Value)}, VV (kvs.map fun kv => (kV kv.1, kv.2)) ws → ∃ rs, Carries (mixKind P w) ws rs ∧ KV kvs rs
  | [], _, r => by rw [List.map_nil] at r; cases r; exact ⟨[], True.intro, .nil⟩
  | p :: kvs, _, r => by
    rw [List.map_cons] at r
    cases r with
    | @cons a b as bs h t =>
      obtain ⟨rs, c, q⟩ := carries_of (P := P) (w := w) t
      obtain ⟨b1, b2⟩ := b
      exact ⟨(p.1, b2) :: rs, ⟨kV_is h.1, rfl, c⟩, .cons ⟨rfl, h.2⟩ q⟩
/-- {k: v, ..} with keys ints and texts; the new dict stands empty while the pairs are made -/
def tDisp (trs : List (TE × TE)) : TE := fun σ H Q => ∀ p, H p = none → tPairs trs σ (upd H p (.dK [])) fun ps H2 => H2 p = some (.dK []) ∧ ∃ kvs : List (Key × V), ps = kvs.map (fun kv => (kV kv.1, kv.2)) ∧ kvs.length ≤ 15 ∧ Q (.ref p) (upd H2 p (.dK (mergeK [] kvs)))
theorem pe_disp {X : Cx} {pos : Pos} {keys : List (Option Expr)} {values : List Expr} {trs : List (TE × TE)} (h : PPs X pos keys values trs) (hall : keys.all (·.isSome) = true) (hl : keys.length = values.length) (h0 : keys ≠ [])
    (h15 : keys.length ≤ 15) : PE X (.Dict keys values pos) (tDisp trs) := by
  intro pins s σ H Q I q
  have hn := I.hok.fresh (Nat.le_refl s.heap.objs.size)
  have I1 := I.laid (a := s.heap.objs.size) (o := .dK []) (h' := s.heap.push { cls := .type "dict", data := .dict #[] }) (t' := s.toks) (fun _ _ q => Heap.get?_push_of_some _ q) (Nat.le_refl _) (dk_empty s.heap I.big)
  refine wpAny_Dict_walk (knd := mixKind X.prog X.w) hall hl h0 h15 (thn (h pins _ σ _ _ I1 (q _ hn)) fun ws s2 ⟨ps, H2, I2, rel, e, kvs, ep, lk, q2⟩ => ?_)
  subst ep
  obtain ⟨rs, c, rk⟩ := carries_of (P := X.prog) (w := X.w) rel
  obtain ⟨z, hd, vs0, r0, dd⟩ := dk_of I2.hok e
  cases r0
  refine ⟨rs, c, dd, fun h' dd' hs => ⟨.ref s.heap.objs.size, _, ?_, rfl, q2⟩⟩
  have hz : (mergeK [] kvs).length ≤ sizeLine := by
    have h1 := length_mergeK kvs []
    rw [List.length_nil] at h1
    rw [sizeLine_eq]; omega
  have he : ∃ q, h'.get? s.heap.objs.size = some q := let ⟨q, _, _, hq, _⟩ := dd'; ⟨q, hq⟩
  exact d_write I2 (by rw [e]; exact True.intro) hs he (dk_new hz hd (rk.merge .nil) dd')


end L2

set_option Elab.async false
set_option linter.all false
set_option maxRecDepth 100000
set_option maxHeartbeats 4000000
/-! list(d) of a dict, sorted(l) of a list of ints -/
namespace L2
open PySem PySem.Spec PyProof.Rows
theorem rel_key {P : Program} {w : World} {k : Key} {v : Value} (h : (mixKind P w).is k v = true) : RelV (kV k) v := by
  rcases keyIs_shape h with ⟨i, t, rfl, rfl⟩ | ⟨x, t, rfl, rfl⟩
  · exact ⟨t, rfl⟩
  · exact ⟨t, rfl⟩
theorem vals_keys {P : Program} {w : World} : ∀ {kvs : List (Key × V)} {vs : List (Key × Value)} {us : List Value}, KV kvs vs → us.length = vs.length → (∀ (j : Nat) (v : Value), us[j]? = some v → ∃ (k : Key) (x : Value), vs[j]? = some (k, x) ∧ (mixKind P w).is k v = true) → Vals (kvs.map fun kv => kV kv.1) us
  | _, _, [], .nil, _, _ => .nil
  | _, _, [], .cons h t, hl, _ => by simp at hl
  | _, _, u :: us, .nil, hl, _ => by simp at hl
  | _, _, u :: us, .cons h t, hl, g => by
    obtain ⟨k, x, e, hk⟩ := g 0 u rfl
    rw [List.map_cons]
    refine .cons ?_ (vals_keys (P := P) (w := w) t (by simpa using hl) fun j v e => g (j + 1) v e)
    rw [List.getElem?_cons_zero] at e
    cases e
    rw [h.1]
    exact rel_key hk
theorem ints_of : ∀ {ns : List Int} {us : List Value}, Vals (ns.map V.int) us → IntsAre us ns
  | [], _, r => by rw [List.map_nil] at r; cases r; exact .nil
  | n :: ns, _, r => by
    rw [List.map_cons] at r
    cases r with
    | cons h t => obtain ⟨k, rfl⟩ := h; exact .cons n k (ints_of t)
theorem vals_of_ints : ∀ {ns : List Int} {us : List Value}, IntsAre us ns → Vals (ns.map V.int) us
  | _, _, .nil => .nil
  | _, _, .cons n t r => .cons ⟨t, rfl⟩ (vals_of_ints r)
section
variable {X : Cx}
theorem call_listD (hh : X.A.handled = none) : CallR X (.type "list") (fun xs H Q => ∃ p kvs, xs = [V.ref p] ∧ H p = some (.dK kvs) ∧ ∀ l, H l = none → Q (.ref l) (upd H l (.lst (kvs.map fun kv => kV kv.1)))) := by
  intro pins s σ H xs us Q I r h
  obtain ⟨p, kvs, rfl, e, q⟩ := h
  obtain ⟨u, rfl, rx⟩ := vals1 r
  cases rx
  obtain ⟨z, hd, vs, rel, dd⟩ := dk_of I.hok e
  obtain ⟨ep, hat⟩ := dd.dictAt
  refine PySem.W.kdl_call (PySem.W.kdl_dict (knd := mixKind X.prog X.w) (kvs := vs) (ep := ep) hd) hh hat (by rw [← rel.length]; exact z) fun h' tk acc' c' kp e' it => ?_
  refine ⟨.ref s.heap.objs.size, _, I.laid (t' := tk) kp (Nat.le_refl _) (show ObjOk X.prog X.w _ h' _ (.lst (kvs.map fun kv => kV kv.1)) from ⟨by rw [List.length_map]; exact z, acc'.toList, c', ?_, by rw [Array.toArray_toList]; exact e'⟩), rfl, q _ (I.hok.fresh (Nat.le_refl _))⟩
  exact vals_keys (P := X.prog) (w := X.w) rel (by rw [Array.length_toList]; exact it.1) fun j v ej => it.2 j v (by rw [← Array.getElem?_toList]; exact ej)
theorem call_sortI : CallR X (.builtin "sorted") (fun xs H Q => ∃ (p : Addr) (ns : List Int), xs = [V.ref p] ∧ SqL X.K H p (ns.map V.int) ∧ ns.length < 64 ∧ ∀ (l : Addr) (ns' : List Int), H l = none → ns'.Perm ns → ns'.Pairwise (· ≤ ·) → Q (.ref l) (upd H l (.lst (ns'.map V.int)))) := by
  intro pins s σ H xs us Q I r h
  obtain ⟨p, ns, rfl, hq, h64, q⟩ := h
  obtain ⟨u, rfl, rx⟩ := vals1 r
  cases rx
  obtain ⟨its, r', pl, hz⟩ := I.list hq
  have hlen := r'.length
  rw [List.length_map] at hlen hz
  refine sorted_ints (ns := ns) (vs := its) pl.isList (ints_of r') (by omega) fun out ns' a1 a2 a3 => ?_
  obtain ⟨e, he⟩ := sortedAll_at s.heap its out
  refine ⟨.ref (s.heap.objs.size + 1), _, I.laid (a := s.heap.objs.size + 1) (t' := s.toks) (fun b u hb => sortedAll_old hb) (Nat.le_succ _) (show ObjOk X.prog X.w _ _ _ (.lst (ns'.map V.int)) from ⟨by rw [List.length_map, a2.length_eq]; exact hz, out.toList, e, vals_of_ints a1, by rw [Array.toArray_toList]; exact he⟩), rfl, q _ ns' (I.hok.fresh (Nat.le_succ _)) a2 a3⟩
end
end L2

set_option Elab.async false
set_option linter.all false
set_option maxRecDepth 100000
set_option maxHeartbeats 4000000
/-! DATA READINGS: each expression and statement of the text as a plain function over data. -/
namespace D3
open PySem PySem.Spec PyProof.Rows L2 L3

/-! ### what a name holds, what an expression tells -/
/-- the refusals' classes by their names -/
inductive Ex where
  | BelowError | NoNumber | NoCurve | TooGreat | NoStretch | NoNear | NoPieces | NoText | NoRow | NoName | fnA | fnB
  deriving DecidableEq
/-- names of defs that are handed on -/
def isFn : Ex → Bool
  | .fnA => true
  | .fnB => true
  | _ => false
class Ecx where
  at_ : Ex → Addr
abbrev ecx [Ecx] (n : Ex) : Addr := Ecx.at_ n
inductive Sl where
  | no
  | dat (d : PyData)
  | own (ds : List PyData)
  | exc (C : Ex)
  | prs (o : Option (List PyData × List PyData))
inductive Rz where
  | dat (d : PyData)
  | new (ds : List PyData)
  | use (d : PyData)
  | var (ds : List PyData)
  | exc (C : Ex)
def Rz.d? : Rz → Option PyData
  | .dat d => some d
  | .new ds => some (.list ds)
  | .use d => some d
  | .var ds => some (.list ds)
  | .exc _ => none
inductive Res (α : Type) where
  | ok (a : α)
  | err (C : Ex)
abbrev M (α : Type) := Option (Res α)
def bnd {α β : Type} (m : M α) (k : α → M β) : M β :=
  match m with
  | some (.ok a) => k a
  | some (.err C) => some (.err C)
  | none => none
def okM {α : Type} (a : α) : M α := some (.ok a)
theorem bnd_okM {α β : Type} (a : α) (k : α → M β) : bnd (okM a) k = k a := rfl
theorem bnd_inv {α β : Type} {m : M α} {k : α → M β} {r : Res β} (h : bnd m k = some r) : (∃ a, m = some (.ok a) ∧ k a = some r) ∨ ∃ C, m = some (.err C) ∧ r = .err C := by
  cases m with
  | none => exact nomatch h
  | some m =>
    cases m with
    | ok a => exact .inl ⟨a, rfl, h⟩
    | err C => exact .inr ⟨C, rfl, (Option.some.inj h).symm⟩

/-! ### heaps with lists of one's own -/
def hid (H : Hp) (S : Addr → Bool) : Hp := fun b => if S b = true then none else H b
theorem hid_f {H : Hp} {S : Addr → Bool} {b : Addr} (h : S b = false) : hid H S b = H b := by unfold hid; rw [h]; rfl
theorem hid_t {H : Hp} {S : Addr → Bool} {b : Addr} (h : S b = true) : hid H S b = none := by unfold hid; rw [h]; rfl
theorem hid_up {H : Hp} {S : Addr → Bool} : Same (hid H S) H := fun b o h => by
  by_cases c : S b = true
  · rw [hid_t c] at h; cases h
  · rw [hid_f (by simpa using c)] at h; exact h
theorem same_hid {H H' : Hp} {S : Addr → Bool} (g : Same H H') : Same (hid H S) (hid H' S) := fun b o h => by
  by_cases c : S b = true
  · rw [hid_t c] at h; cases h
  · rw [hid_f (by simpa using c)] at h ⊢; exact g b o h
structure Ext (H : Hp) (S : Addr → Bool) (H' : Hp) (S' : Addr → Bool) : Prop where
  up : Same H H'
  hd : Same (hid H S) (hid H' S')
  sub : ∀ b, S b = true → S' b = true
  new : ∀ b, S' b = true → S b = true ∨ (H b = none ∧ ∃ xs, H' b = some (.lst xs))
theorem Ext.refl {H : Hp} {S : Addr → Bool} : Ext H S H S := ⟨Same.refl _, Same.refl _, fun _ h => h, fun _ h => .inl h⟩
theorem Ext.same {H H' : Hp} {S : Addr → Bool} (g : Same H H') : Ext H S H' S := ⟨g, same_hid g, fun _ h => h, fun _ h => .inl h⟩
theorem Ext.trans {H H1 H2 : Hp} {S S1 S2 : Addr → Bool} (a : Ext H S H1 S1) (b : Ext H1 S1 H2 S2) : Ext H S H2 S2 :=
  ⟨a.up.trans b.up, a.hd.trans b.hd, fun c h => b.sub c (a.sub c h), fun c h => by
    rcases b.new c h with h | ⟨h, xs, e⟩
    · rcases a.new c h with h | ⟨h, xs, e⟩
      · exact .inl h
      · exact .inr ⟨h, xs, b.up _ _ e⟩
    · exact .inr ⟨a.up.free h, xs, e⟩⟩
/-- a new list of one's own -/
def ins (S : Addr → Bool) (a : Addr) : Addr → Bool := fun b => if b = a then true else S b
def del (S : Addr → Bool) (a : Addr) : Addr → Bool := fun b => if b = a then false else S b
theorem ins_same {S : Addr → Bool} {a : Addr} : ins S a a = true := by unfold ins; rw [if_pos rfl]
theorem ins_ne {S : Addr → Bool} {a b : Addr} (h : b ≠ a) : ins S a b = S b := by unfold ins; rw [if_neg h]
theorem del_same {S : Addr → Bool} {a : Addr} : del S a a = false := by unfold del; rw [if_pos rfl]
theorem del_ne {S : Addr → Bool} {a b : Addr} (h : b ≠ a) : del S a b = S b := by unfold del; rw [if_neg h]
theorem hid_ins {H : Hp} {S : Addr → Bool} {a : Addr} {o : HO} (h : H a = none) : hid (upd H a o) (ins S a) = hid H S := by
  funext b
  by_cases c : b = a
  · subst c
    rw [hid_t ins_same]
    cases e : S b with
    | true => rw [hid_t e]
    | false => rw [hid_f e, h]
  · cases e : S b with
    | true => rw [hid_t e, hid_t (by rw [ins_ne c]; exact e)]
    | false => rw [hid_f e, hid_f (by rw [ins_ne c]; exact e), upd_ne c]
theorem hid_mut {H : Hp} {S : Addr → Bool} {a : Addr} {o : HO} (h : S a = true) : hid (upd H a o) S = hid H S := by
  funext b
  cases e : S b with
  | true => rw [hid_t e, hid_t e]
  | false => rw [hid_f e, hid_f e, upd_ne (by intro z; subst z; rw [h] at e; cases e)]
theorem Ext.ins {H : Hp} {S : Addr → Bool} {a : Addr} {xs : List V} (h : H a = none) : Ext H S (upd H a (.lst xs)) (ins S a) :=
  ⟨same_new h _, by rw [hid_ins h]; exact Same.refl _, fun b hb => by
    unfold D3.ins; split
    · rfl
    · exact hb, fun b hb => by
    by_cases c : b = a
    · subst c; exact .inr ⟨h, xs, upd_same⟩
    · rw [ins_ne c] at hb; exact .inl hb⟩
theorem same_del {H : Hp} {S : Addr → Bool} {a : Addr} : Same (hid H S) (hid H (del S a)) := fun b o h => by
  by_cases c : b = a
  · subst c; rw [hid_f del_same]; exact hid_up _ _ h
  · cases e : S b with
    | true => rw [hid_t e] at h; cases h
    | false => rw [hid_f e] at h; rw [hid_f (by rw [del_ne c]; exact e)]; exact h

/-! ### a value by what is told of it -/
variable [Ecx]
/-- what is known of a refusal that a name holds, or of a def -/
def ExAt (H : Hp) (ea : Addr) (C : Ex) : Prop := (isFn C = false ∧ H ea = some (excO ea (.ref (ecx C)))) ∨ (isFn C = true ∧ ea = ecx C)
theorem ExAt.same {H H' : Hp} {ea : Addr} {C : Ex} (g : Same H H') (h : ExAt H ea C) : ExAt H' ea C := by
  rcases h with ⟨a, b⟩ | h
  · exact .inl ⟨a, g _ _ b⟩
  · exact .inr h
theorem ExAt.real {H : Hp} {ea : Addr} {C : Ex} (h : ExAt H ea C) (n : isFn C = false) : H ea = some (excO ea (.ref (ecx C))) := by
  rcases h with ⟨a, b⟩ | ⟨a, b⟩
  · exact b
  · rw [a] at n; cases n
def RV (K : PySem.W.Frag) (H H' : Hp) (S' : Addr → Bool) (v : V) : Rz → Prop
  | .dat d => DV K (hid H' S') v d
  | .new ds => ∃ a xs, v = .ref a ∧ S' a = true ∧ H a = none ∧ H' a = some (.lst xs) ∧ DVs K (hid H' S') xs ds
  | .use d => DV K H' v d
  | .var ds => ∃ a xs, v = .ref a ∧ S' a = true ∧ H' a = some (.lst xs) ∧ DVs K (hid H' S') xs ds
  | .exc C => ∃ ea, v = .ref ea ∧ ExAt (hid H' S') ea C
theorem RV.full {K : PySem.W.Frag} {H H' : Hp} {S' : Addr → Bool} {v : V} {r : Rz} {d : PyData} (h : RV K H H' S' v r) (e : r.d? = some d) : DV K H' v d := by
  cases r with
  | dat x => cases e; exact DV.same hid_up h
  | new ds =>
    cases e
    obtain ⟨a, xs, rfl, _, _, ha, hx⟩ := h
    exact .lst (SqL.of ha) (DVs.same hid_up hx)
  | use x => cases e; exact h
  | var ds =>
    cases e
    obtain ⟨a, xs, rfl, _, ha, hx⟩ := h
    exact .lst (SqL.of ha) (DVs.same hid_up hx)
  | exc C => exact nomatch e
theorem RV.ext {K : PySem.W.Frag} {H H1 H2 : Hp} {S1 S2 : Addr → Bool} {v : V} {r : Rz} (h : RV K H H1 S1 v r) (g : Ext H1 S1 H2 S2) : RV K H H2 S2 v r := by
  cases r with
  | dat x => exact DV.same g.hd h
  | new ds =>
    obtain ⟨a, xs, e, z, n, ha, hx⟩ := h
    exact ⟨a, xs, e, g.sub a z, n, g.up _ _ ha, DVs.same g.hd hx⟩
  | use x => exact DV.same g.up h
  | var ds =>
    obtain ⟨a, xs, e, z, ha, hx⟩ := h
    exact ⟨a, xs, e, g.sub a z, g.up _ _ ha, DVs.same g.hd hx⟩
  | exc C =>
    obtain ⟨ea, e, z⟩ := h
    exact ⟨ea, e, ExAt.same g.hd z⟩
/-- told from a later heap: fine for an earlier one -/
theorem RV.back {K : PySem.W.Frag} {H H1 H2 : Hp} {S1 S2 : Addr → Bool} {v : V} {r : Rz} (g : Ext H S1 H1 S2) {S' : Addr → Bool} (h : RV K H1 H2 S' v r) : RV K H H2 S' v r := by
  cases r with
  | dat x => exact h
  | new ds =>
    obtain ⟨a, xs, e, z, n, ha, hx⟩ := h
    exact ⟨a, xs, e, z, g.up.free n, ha, hx⟩
  | use x => exact h
  | var ds => exact h
  | exc C => exact h

/-- the lists in a pair that only this name holds -/
def Kid (G : Hp) (σ : L2.St) (δ : List Sl) (i : Nat) (a : Addr) : Prop :=
  ∃ o c x y, δ[i]? = some (Sl.prs o) ∧ σ[i]? = some (some (V.ref c)) ∧ G c = some (.tup [.ref x, .ref y]) ∧ (a = x ∨ a = y)
structure Loc (K : PySem.W.Frag) (H0 : Hp) (σ : L2.St) (H : Hp) (δ : List Sl) (S : Addr → Bool) : Prop where
  old : Same H0 H
  frs : ∀ b, S b = true → H0 b = none
  lst : ∀ b, S b = true → ∃ xs, H b = some (.lst xs)
  len : σ.length = δ.length
  dat : ∀ (i : Nat) (d : PyData), δ[i]? = some (Sl.dat d) → ∃ v, σ[i]? = some (some v) ∧ DV K (hid H S) v d
  exc : ∀ (i : Nat) (C : Ex), δ[i]? = some (Sl.exc C) → ∃ ea : Addr, σ[i]? = some (some (.ref ea)) ∧ ExAt (hid H S) ea C
  own : ∀ (i : Nat) (ds : List PyData), δ[i]? = some (Sl.own ds) → ∃ (a : Addr) (xs : List V), σ[i]? = some (some (.ref a)) ∧ S a = true ∧ H a = some (.lst xs) ∧ DVs K (hid H S) xs ds
  one : ∀ (i j : Nat) (ds es : List PyData) (a : Addr), δ[i]? = some (Sl.own ds) → δ[j]? = some (Sl.own es) → σ[i]? = some (some (.ref a)) → σ[j]? = some (some (.ref a)) → i = j
  two : ∀ (i : Nat) (o : Option (List PyData × List PyData)), δ[i]? = some (Sl.prs o) → ∃ (c a b : Addr) (xs ys : List V), σ[i]? = some (some (.ref c)) ∧ hid H S c = some (.tup [.ref a, .ref b]) ∧ S a = true ∧ S b = true ∧
    H a = some (.lst xs) ∧ H b = some (.lst ys) ∧ ∀ ds es, o = some (ds, es) → DVs K (hid H S) xs ds ∧ DVs K (hid H S) ys es
  sep : ∀ (i j : Nat) (ds : List PyData) (a : Addr), Kid (hid H S) σ δ i a → δ[j]? = some (Sl.own ds) → σ[j]? ≠ some (some (.ref a))
  sop : ∀ (i j : Nat) (a : Addr), Kid (hid H S) σ δ i a → Kid (hid H S) σ δ j a → i = j
section
variable {K : PySem.W.Frag} {H0 H H' : Hp} {σ : L2.St} {δ : List Sl} {S S' : Addr → Bool}
theorem Loc.kidBack {G : Hp} {i : Nat} {a : Addr} (L : Loc K H0 σ H δ S) (g : Same (hid H S) G) (k : Kid G σ δ i a) : Kid (hid H S) σ δ i a := by
  obtain ⟨o, c, x, y, e1, e2, e3, e4⟩ := k
  obtain ⟨c', a', b', xs, ys, q1, q2, _⟩ := L.two i o e1
  rw [e2] at q1; cases q1
  have := g _ _ q2
  rw [e3] at this; cases this
  exact ⟨o, c, _, _, e1, e2, q2, e4⟩
theorem Loc.kidIn {i : Nat} {a : Addr} (L : Loc K H0 σ H δ S) (k : Kid (hid H S) σ δ i a) : S a = true := by
  obtain ⟨o, c, x, y, e1, e2, e3, e4⟩ := k
  obtain ⟨c', a', b', xs, ys, q1, q2, q3, q4, _⟩ := L.two i o e1
  rw [e2] at q1; cases q1
  rw [e3] at q2; cases q2
  rcases e4 with rfl | rfl
  · exact q3
  · exact q4
theorem Loc.kids {S1 : Addr → Bool} (L : Loc K H0 σ H δ S) (g : Ext H S H' S1) : ∀ (j : Nat) (b : Addr), Kid (hid H' S1) σ δ j b → H b ≠ none := fun j b k z => by
  obtain ⟨xs, e⟩ := L.lst b (L.kidIn (L.kidBack g.hd k))
  rw [z] at e; cases e
theorem Kid.mk' {G : Hp} {i : Nat} {o : Option (List PyData × List PyData)} {c a b : Addr} (e1 : δ[i]? = some (Sl.prs o)) (e2 : σ[i]? = some (some (V.ref c))) (e3 : G c = some (.tup [.ref a, .ref b])) : Kid G σ δ i a ∧ Kid G σ δ i b :=
  ⟨⟨o, c, a, b, e1, e2, e3, .inl rfl⟩, ⟨o, c, a, b, e1, e2, e3, .inr rfl⟩⟩
theorem Loc.ext (L : Loc K H0 σ H δ S) (g : Ext H S H' S') : Loc K H0 σ H' δ S' := by
  refine ⟨L.old.trans g.up, fun b h => ?_, fun b h => ?_, L.len, fun i d e => ?_, fun i C e => ?_, fun i ds e => ?_, L.one, fun i o e => ?_, fun i j ds a k => L.sep i j ds a (L.kidBack g.hd k), fun i j a k k' => L.sop i j a (L.kidBack g.hd k) (L.kidBack g.hd k')⟩
  · rcases g.new b h with h | ⟨h, _⟩
    · exact L.frs b h
    · exact L.old.free h
  · rcases g.new b h with h | ⟨_, h⟩
    · obtain ⟨xs, e⟩ := L.lst b h
      exact ⟨xs, g.up _ _ e⟩
    · exact h
  · obtain ⟨v, e1, e2⟩ := L.dat i d e
    exact ⟨v, e1, DV.same g.hd e2⟩
  · obtain ⟨v, e1, e2⟩ := L.exc i C e
    exact ⟨v, e1, ExAt.same g.hd e2⟩
  · obtain ⟨a, xs, e1, e2, e3, e4⟩ := L.own i ds e
    exact ⟨a, xs, e1, g.sub _ e2, g.up _ _ e3, DVs.same g.hd e4⟩
  · obtain ⟨c, a, b, xs, ys, q1, q2, q3, q4, q5, q6, q7⟩ := L.two i o e
    exact ⟨c, a, b, xs, ys, q1, g.hd _ _ q2, g.sub _ q3, g.sub _ q4, g.up _ _ q5, g.up _ _ q6, fun ds es z => ⟨DVs.same g.hd (q7 ds es z).1, DVs.same g.hd (q7 ds es z).2⟩⟩
/-- the hidden heap as the ground -/
theorem Loc.ground (L : Loc K H0 σ H δ S) : Loc K (hid H S) σ H δ S := ⟨hid_up, fun _ h => hid_t h, L.lst, L.len, L.dat, L.exc, L.own, L.one, L.two, L.sep, L.sop⟩
theorem Loc.base (L : Loc K H0 σ H δ S) : Same H0 (hid H S) := fun b o h => by
  cases e : S b with
  | true => rw [L.frs b e] at h; cases h
  | false => rw [hid_f e]; exact L.old b o h
theorem set_get {α : Type} {xs : List α} {i j : Nat} {v w : α} (h : (xs.set i v)[j]? = some w) : (i = j ∧ w = v ∧ i < xs.length) ∨ (i ≠ j ∧ xs[j]? = some w) := by
  rw [List.getElem?_set] at h
  split at h
  · rename_i e
    split at h
    · exact .inl ⟨e, (Option.some.inj h).symm, by assumption⟩
    · cases h
  · rename_i e; exact .inr ⟨e, h⟩
theorem Kid.unset {G : Hp} {i j : Nat} {o : Option V} {s : Sl} {a : Addr} (hp : ∀ q, s ≠ .prs q) (k : Kid G (σ.set i o) (δ.set i s) j a) : i ≠ j ∧ Kid G σ δ j a := by
  obtain ⟨q, c, x, y, e1, e2, e3, e4⟩ := k
  rcases set_get e1 with ⟨_, e, _⟩ | ⟨hne, e⟩
  · exact absurd e.symm (hp q)
  · rw [List.getElem?_set_ne hne] at e2
    exact ⟨hne, q, c, x, y, e, e2, e3, e4⟩
theorem Kid.unset' {G : Hp} {i j : Nat} {s : Sl} {a : Addr} (hp : ∀ q, s ≠ .prs q) (k : Kid G σ (δ.set i s) j a) : i ≠ j ∧ Kid G σ δ j a := by
  obtain ⟨q, c, x, y, e1, e2, e3, e4⟩ := k
  rcases set_get e1 with ⟨_, e, _⟩ | ⟨hne, e⟩
  · exact absurd e.symm (hp q)
  · exact ⟨hne, q, c, x, y, e, e2, e3, e4⟩
/-- any name let go, or given a plain value -/
theorem Loc.put {i : Nat} {o : Option V} {s : Sl} (L : Loc K H0 σ H δ S) (hs : ∀ ds, s ≠ .own ds) (hd : ∀ d, s = .dat d → ∃ v, o = some v ∧ DV K (hid H S) v d)
    (hx : ∀ C, s = .exc C → ∃ ea, o = some (.ref ea) ∧ ExAt (hid H S) ea C) (hp : ∀ q, s ≠ .prs q := by intro q z; cases z) : Loc K H0 (σ.set i o) H (δ.set i s) S := by
  refine ⟨L.old, L.frs, L.lst, by rw [List.length_set, List.length_set]; exact L.len, fun j d e => ?_, fun j C e => ?_, fun j ds e => ?_, fun j k ds es a e1 e2 e3 e4 => ?_, fun j q e => ?_, fun j k ds a kd e => ?_, fun j k a kd kd' => L.sop j k a (kd.unset hp).2 (kd'.unset hp).2⟩
  · rcases set_get e with ⟨rfl, e, hl⟩ | ⟨hne, e⟩
    · obtain ⟨v, rfl, q⟩ := hd d e.symm
      exact ⟨v, by rw [List.getElem?_set_self (by rw [L.len]; exact hl)], q⟩
    · obtain ⟨v, e1, q⟩ := L.dat j d e
      exact ⟨v, by rw [List.getElem?_set_ne hne]; exact e1, q⟩
  · rcases set_get e with ⟨rfl, e, hl⟩ | ⟨hne, e⟩
    · obtain ⟨v, rfl, q⟩ := hx C e.symm
      exact ⟨v, by rw [List.getElem?_set_self (by rw [L.len]; exact hl)], q⟩
    · obtain ⟨v, e1, q⟩ := L.exc j C e
      exact ⟨v, by rw [List.getElem?_set_ne hne]; exact e1, q⟩
  · rcases set_get e with ⟨rfl, e, hl⟩ | ⟨hne, e⟩
    · exact absurd e.symm (hs ds)
    · obtain ⟨a, xs, e1, q⟩ := L.own j ds e
      exact ⟨a, xs, by rw [List.getElem?_set_ne hne]; exact e1, q⟩
  · rcases set_get e1 with ⟨_, e, _⟩ | ⟨n1, e1⟩
    · exact absurd e.symm (hs ds)
    · rcases set_get e2 with ⟨_, e, _⟩ | ⟨n2, e2⟩
      · exact absurd e.symm (hs es)
      · rw [List.getElem?_set_ne n1] at e3
        rw [List.getElem?_set_ne n2] at e4
        exact L.one j k ds es a e1 e2 e3 e4
  · rcases set_get e with ⟨_, e, _⟩ | ⟨hne, e⟩
    · exact absurd e.symm (hp q)
    · rw [List.getElem?_set_ne hne]; exact L.two j q e
  · rcases set_get e with ⟨_, e, _⟩ | ⟨hne, e⟩
    · exact absurd e.symm (hs ds)
    · rw [List.getElem?_set_ne hne]; exact L.sep j k ds a (kd.unset hp).2 e
/-- a list of one's own, that no other name holds -/
theorem Loc.putOwn {i : Nat} {a : Addr} {xs : List V} {ds : List PyData} (L : Loc K H0 σ H δ S) (hS : S a = true) (ha : H a = some (.lst xs)) (hx : DVs K (hid H S) xs ds)
    (hn : ∀ (j : Nat) (es : List PyData), δ[j]? = some (Sl.own es) → σ[j]? ≠ some (some (V.ref a))) (hk : ∀ j, ¬ Kid (hid H S) σ δ j a) : Loc K H0 (σ.set i (some (.ref a))) H (δ.set i (.own ds)) S := by
  have hp : ∀ q, Sl.own ds ≠ .prs q := fun q z => nomatch z
  refine ⟨L.old, L.frs, L.lst, by rw [List.length_set, List.length_set]; exact L.len, fun j d e => ?_, fun j C e => ?_, fun j ds' e => ?_, fun j k ds1 es b e1 e2 e3 e4 => ?_, fun j q e => ?_, fun j k ds b kd e => ?_, fun j k b kd kd' => L.sop j k b (kd.unset hp).2 (kd'.unset hp).2⟩
  · rcases set_get e with ⟨rfl, e, hl⟩ | ⟨hne, e⟩
    · cases e
    · obtain ⟨v, e1, q⟩ := L.dat j d e
      exact ⟨v, by rw [List.getElem?_set_ne hne]; exact e1, q⟩
  · rcases set_get e with ⟨rfl, e, hl⟩ | ⟨hne, e⟩
    · cases e
    · obtain ⟨v, e1, q⟩ := L.exc j C e
      exact ⟨v, by rw [List.getElem?_set_ne hne]; exact e1, q⟩
  · rcases set_get e with ⟨rfl, e, hl⟩ | ⟨hne, e⟩
    · cases e
      exact ⟨a, xs, by rw [List.getElem?_set_self (by rw [L.len]; exact hl)], hS, ha, hx⟩
    · obtain ⟨b, ys, e1, q⟩ := L.own j ds' e
      exact ⟨b, ys, by rw [List.getElem?_set_ne hne]; exact e1, q⟩
  · rcases set_get e1 with ⟨h1, f1, l1⟩ | ⟨n1, f1⟩
    · subst h1
      rw [List.getElem?_set_self (by rw [L.len]; exact l1)] at e3
      cases e3
      rcases set_get e2 with ⟨h2, f2, l2⟩ | ⟨n2, f2⟩
      · exact h2
      · rw [List.getElem?_set_ne n2] at e4
        exact absurd e4 (hn k es f2)
    · rw [List.getElem?_set_ne n1] at e3
      rcases set_get e2 with ⟨h2, f2, l2⟩ | ⟨n2, f2⟩
      · subst h2
        rw [List.getElem?_set_self (by rw [L.len]; exact l2)] at e4
        cases e4
        exact absurd e3 (hn j ds1 f1)
      · rw [List.getElem?_set_ne n2] at e4
        exact L.one j k ds1 es b f1 f2 e3 e4
  · rcases set_get e with ⟨_, e, _⟩ | ⟨hne, e⟩
    · cases e
    · rw [List.getElem?_set_ne hne]; exact L.two j q e
  · have kd := (kd.unset hp).2
    rcases set_get e with ⟨h1, e, l1⟩ | ⟨hne, e⟩
    · subst h1
      rw [List.getElem?_set_self (by rw [L.len]; exact l1)]
      intro z; cases z
      exact hk j kd
    · rw [List.getElem?_set_ne hne]; exact L.sep j k ds b kd e
/-- the list at a name is changed -/
theorem Loc.mut {i : Nat} {a : Addr} {ds ds' : List PyData} {xs' : List V} (L : Loc K H0 σ H δ S) (hi : δ[i]? = some (.own ds)) (ha : σ[i]? = some (some (.ref a))) (hx : DVs K (hid H S) xs' ds') :
    Loc K H0 σ (upd H a (.lst xs')) (δ.set i (.own ds')) S := by
  obtain ⟨a', xs, e1, hS, hH, _⟩ := L.own i ds hi
  rw [ha] at e1; cases e1
  have hh := hid_mut (H := H) (o := .lst xs') hS
  have hp : ∀ q, Sl.own ds' ≠ .prs q := fun q z => nomatch z
  have hq : ∀ (j : Nat) (es : List PyData), (δ.set i (.own ds'))[j]? = some (Sl.own es) → ∃ ds2, δ[j]? = some (.own ds2) := fun j es e => by
    rcases set_get e with ⟨rfl, _, _⟩ | ⟨_, e⟩
    · exact ⟨_, hi⟩
    · exact ⟨_, e⟩
  refine ⟨fun b o h => ?_, L.frs, fun b h => ?_, by rw [List.length_set]; exact L.len, fun j d e => ?_, fun j C e => ?_, fun j es e => ?_, fun j k ds1 es b e1 e2 e3 e4 => ?_, fun j q e => ?_, fun j k ds b kd e => ?_, fun j k b kd kd' => ?_⟩
  · have : b ≠ a := by intro z; subst z; rw [L.frs b hS] at h; cases h
    rw [upd_ne this]; exact L.old b o h
  · by_cases c : b = a
    · subst c; exact ⟨xs', upd_same⟩
    · rw [upd_ne c]; exact L.lst b h
  · rw [hh]
    rcases set_get e with ⟨rfl, e, hl⟩ | ⟨hne, e⟩
    · cases e
    · exact L.dat j d e
  · rw [hh]
    rcases set_get e with ⟨rfl, e, hl⟩ | ⟨hne, e⟩
    · cases e
    · exact L.exc j C e
  · rw [hh]
    rcases set_get e with ⟨rfl, e, hl⟩ | ⟨hne, e⟩
    · cases e
      exact ⟨a, xs', ha, hS, upd_same, hx⟩
    · obtain ⟨b, ys, q1, q2, q3, q4⟩ := L.own j es e
      have : b ≠ a := by
        intro z; subst z
        exact hne (L.one i j ds es b hi e ha q1)
      exact ⟨b, ys, q1, q2, by rw [upd_ne this]; exact q3, q4⟩
  · have f1 : ∃ ds2, δ[j]? = some (.own ds2) := by
      rcases set_get e1 with ⟨rfl, _, _⟩ | ⟨_, e⟩
      · exact ⟨_, hi⟩
      · exact ⟨_, e⟩
    have f2 : ∃ ds2, δ[k]? = some (.own ds2) := by
      rcases set_get e2 with ⟨rfl, _, _⟩ | ⟨_, e⟩
      · exact ⟨_, hi⟩
      · exact ⟨_, e⟩
    obtain ⟨d1, f1⟩ := f1
    obtain ⟨d2, f2⟩ := f2
    exact L.one j k d1 d2 b f1 f2 e3 e4
  · rw [hh]
    rcases set_get e with ⟨_, e, _⟩ | ⟨hne, e⟩
    · cases e
    · obtain ⟨c, x, y, xs, ys, q1, q2, q3, q4, q5, q6, q7⟩ := L.two j q e
      obtain ⟨k1, k2⟩ := Kid.mk' (G := hid H S) e q1 q2
      have n1 : x ≠ a := fun z => L.sep j i ds x k1 hi (z ▸ ha)
      have n2 : y ≠ a := fun z => L.sep j i ds y k2 hi (z ▸ ha)
      exact ⟨c, x, y, xs, ys, q1, q2, q3, q4, by rw [upd_ne n1]; exact q5, by rw [upd_ne n2]; exact q6, q7⟩
  · rw [hh] at kd
    obtain ⟨d2, f⟩ := hq k ds e
    exact L.sep j k d2 b (kd.unset' hp).2 f
  · rw [hh] at kd kd'
    exact L.sop j k b (kd.unset' hp).2 (kd'.unset' hp).2
/-- a list of one's own that is changed no more -/
theorem Loc.freeze {i : Nat} {ds : List PyData} (L : Loc K H0 σ H δ S) (hi : δ[i]? = some (.own ds)) : ∃ S', Loc K H0 σ H (δ.set i (.dat (.list ds))) S' := by
  obtain ⟨a, xs, ha, hS, hH, hx⟩ := L.own i ds hi
  have il : i < δ.length := (List.getElem?_eq_some_iff.mp hi).1
  have hp : ∀ q, Sl.dat (.list ds) ≠ .prs q := fun q z => nomatch z
  refine ⟨del S a, L.old, fun b h => ?_, fun b h => ?_, by rw [List.length_set]; exact L.len, fun j d e => ?_, fun j C e => ?_, fun j es e => ?_, fun j k ds1 es b e1 e2 e3 e4 => ?_, fun j q e => ?_, fun j k ds2 b kd e => ?_, fun j k b kd kd' => L.sop j k b (L.kidBack same_del (kd.unset' hp).2) (L.kidBack same_del (kd'.unset' hp).2)⟩
  · by_cases c : b = a
    · subst c; rw [del_same] at h; cases h
    · rw [del_ne c] at h; exact L.frs b h
  · by_cases c : b = a
    · subst c; rw [del_same] at h; cases h
    · rw [del_ne c] at h; exact L.lst b h
  · rcases set_get e with ⟨rfl, e, hl⟩ | ⟨hne, e⟩
    · cases e
      exact ⟨_, ha, .lst (SqL.of (by rw [hid_f del_same]; exact hH)) (DVs.same same_del hx)⟩
    · obtain ⟨v, e1, q⟩ := L.dat j d e
      exact ⟨v, e1, DV.same same_del q⟩
  · rcases set_get e with ⟨rfl, e, hl⟩ | ⟨hne, e⟩
    · cases e
    · obtain ⟨v, e1, q⟩ := L.exc j C e
      exact ⟨v, e1, ExAt.same same_del q⟩
  · rcases set_get e with ⟨rfl, e, hl⟩ | ⟨hne, e⟩
    · cases e
    · obtain ⟨b, ys, q1, q2, q3, q4⟩ := L.own j es e
      have : b ≠ a := by
        intro z; subst z
        exact hne (L.one i j ds es b hi e ha q1)
      exact ⟨b, ys, q1, by rw [del_ne this]; exact q2, q3, DVs.same same_del q4⟩
  · rcases set_get e1 with ⟨_, e, _⟩ | ⟨n1, f1⟩
    · cases e
    · rcases set_get e2 with ⟨_, e, _⟩ | ⟨n2, f2⟩
      · cases e
      · exact L.one j k ds1 es b f1 f2 e3 e4
  · rcases set_get e with ⟨_, e, _⟩ | ⟨hne, e⟩
    · cases e
    · obtain ⟨c, x, y, xs, ys, q1, q2, q3, q4, q5, q6, q7⟩ := L.two j q e
      obtain ⟨k1, k2⟩ := Kid.mk' (G := hid H S) e q1 q2
      have n1 : x ≠ a := fun z => L.sep j i ds x k1 hi (z ▸ ha)
      have n2 : y ≠ a := fun z => L.sep j i ds y k2 hi (z ▸ ha)
      exact ⟨c, x, y, xs, ys, q1, same_del _ _ q2, by rw [del_ne n1]; exact q3, by rw [del_ne n2]; exact q4, q5, q6, fun ds es z => ⟨DVs.same same_del (q7 ds es z).1, DVs.same same_del (q7 ds es z).2⟩⟩
  · have kd := L.kidBack same_del (kd.unset' hp).2
    rcases set_get e with ⟨_, e, _⟩ | ⟨_, e⟩
    · cases e
    · exact L.sep j k ds2 b kd e
/-- things without lists are seen in the hidden heap too -/
theorem Loc.tk (L : Loc K H0 σ H δ S) : TK H (hid H S) := ⟨fun a xs h => by
    cases e : S a with
    | true => obtain ⟨ys, z⟩ := L.lst a e; rw [h] at z; cases z
    | false => rw [hid_f e]; exact h, fun a o u h => by
    cases e : S a with
    | true => obtain ⟨ys, z⟩ := L.lst a e; rw [h] at z; cases z
    | false => rw [hid_f e]; exact h⟩
end
end D3

set_option Elab.async false
set_option linter.all false
set_option maxRecDepth 100000
set_option maxHeartbeats 4000000
namespace D3
open PySem PySem.Spec PyProof.Rows L2 L3
/-! ### the judgements -/
variable [Ecx]
def EndE (K : PySem.W.Frag) (E : XK) (H : Hp) (S : Addr → Bool) (Q : VK) : Res Rz → Prop
  | .ok z => ∀ v H' S', Ext H S H' S' → RV K H H' S' v z → Q v H'
  | .err C => ∀ H' S', Ext H S H' S' → E (.ref (ecx C)) none H'
def RdE (K : PySem.W.Frag) (E : XK) (t : TE) (f : List Sl → M Rz) : Prop :=
  ∀ (H0 : Hp) (σ : L2.St) (H : Hp) (δ : List Sl) (S : Addr → Bool) (Q : VK) (r : Res Rz), Loc K H0 σ H δ S → f δ = some r → EndE K E H S Q r → t σ H Q
def DE (X : Cx) (E : XK) (e : Expr) (f : List Sl → M Rz) : Prop := ∃ t, PE X e t ∧ RdE X.K E t f
def EndT (E : XK) (H : Hp) (S : Addr → Bool) (Q : Bool → Hp → Prop) : Res Bool → Prop
  | .ok z => ∀ H' S', Ext H S H' S' → Q z H'
  | .err C => ∀ H' S', Ext H S H' S' → E (.ref (ecx C)) none H'
def RdT (K : PySem.W.Frag) (E : XK) (t : TT) (f : List Sl → M Bool) : Prop :=
  ∀ (H0 : Hp) (σ : L2.St) (H : Hp) (δ : List Sl) (S : Addr → Bool) (Q : Bool → Hp → Prop) (r : Res Bool), Loc K H0 σ H δ S → f δ = some r → EndT E H S Q r → t σ H Q
def DT (X : Cx) (E : XK) (e : Expr) (f : List Sl → M Bool) : Prop := ∃ t, PT X e t ∧ RdT X.K E t f
def DW (X : Cx) (E : XK) (e : Expr) (f : List Sl → M Bool) : Prop := ∃ t, PW X e t ∧ RdT X.K E t f
theorem DW.pt {X : Cx} {E : XK} {e : Expr} {f : List Sl → M Bool} (h : DW X E e f) : DT X E e f := let ⟨t, a, b⟩ := h; ⟨t, a.pt, b⟩
inductive RVs (K : PySem.W.Frag) (H H' : Hp) (S' : Addr → Bool) : List V → List Rz → Prop
  | nil : RVs K H H' S' [] []
  | cons {v : V} {vs : List V} {r : Rz} {rs : List Rz} : RV K H H' S' v r → RVs K H H' S' vs rs → RVs K H H' S' (v :: vs) (r :: rs)
def EndA (K : PySem.W.Frag) (E : XK) (H : Hp) (S : Addr → Bool) (Q : List V → Hp → Prop) : Res (List Rz) → Prop
  | .ok z => ∀ vs H' S', Ext H S H' S' → RVs K H H' S' vs z → Q vs H'
  | .err C => ∀ H' S', Ext H S H' S' → E (.ref (ecx C)) none H'
def RdA (K : PySem.W.Frag) (E : XK) (t : TA) (f : List Sl → M (List Rz)) : Prop :=
  ∀ (H0 : Hp) (σ : L2.St) (H : Hp) (δ : List Sl) (S : Addr → Bool) (Q : List V → Hp → Prop) (r : Res (List Rz)), Loc K H0 σ H δ S → f δ = some r → EndA K E H S Q r → t σ H Q
def DA (X : Cx) (E : XK) (es : List Expr) (f : List Sl → M (List Rz)) : Prop := ∃ t, PA X es t ∧ RdA X.K E t f
theorem EndE.ext {K : PySem.W.Frag} {E : XK} {H H1 : Hp} {S S1 : Addr → Bool} {Q : VK} {r : Res Rz} (g : Ext H S H1 S1) (h : EndE K E H S Q r) : EndE K E H1 S1 Q r := by
  cases r with
  | ok z => exact fun v H' S' g' rv => h v H' S' (g.trans g') (rv.back g)
  | err C => exact fun H' S' g' => h H' S' (g.trans g')
theorem EndT.ext {E : XK} {H H1 : Hp} {S S1 : Addr → Bool} {Q : Bool → Hp → Prop} {r : Res Bool} (g : Ext H S H1 S1) (h : EndT E H S Q r) : EndT E H1 S1 Q r := by
  cases r with
  | ok z => exact fun H' S' g' => h H' S' (g.trans g')
  | err C => exact fun H' S' g' => h H' S' (g.trans g')
theorem RVs.back {K : PySem.W.Frag} {H H1 H2 : Hp} {S1 S2 S' : Addr → Bool} (g : Ext H S1 H1 S2) : ∀ {vs : List V} {rs : List Rz}, RVs K H1 H2 S' vs rs → RVs K H H2 S' vs rs
  | _, _, .nil => .nil
  | _, _, .cons h t => .cons (h.back g) (RVs.back g t)
/-! ### names and constants -/
section
variable {X : Cx} {E : XK}
def fVar (i : Nat) (δ : List Sl) : M Rz :=
  match δ[i]? with
  | some (.dat d) => okM (.dat d)
  | some (.own ds) => okM (.var ds)
  | some (.exc C) => okM (.exc C)
  | some (.prs (some (ds, es))) => okM (.use (.tuple [.list ds, .list es]))
  | _ => none
theorem rd_var {K : PySem.W.Frag} (i : Nat) : RdE K E (tVar i) (fVar i) := by
  intro H0 σ H δ S Q r L h q
  unfold fVar at h
  split at h
  · rename_i d e
    cases h
    obtain ⟨v, e1, e2⟩ := L.dat i d e
    exact ⟨v, e1, q v H S .refl e2⟩
  · rename_i ds e
    cases h
    obtain ⟨a, xs, e1, e2, e3, e4⟩ := L.own i ds e
    exact ⟨_, e1, q _ H S .refl ⟨a, xs, rfl, e2, e3, e4⟩⟩
  · rename_i C e
    cases h
    obtain ⟨a, e1, e2⟩ := L.exc i C e
    exact ⟨_, e1, q _ H S .refl ⟨a, rfl, e2⟩⟩
  · rename_i ds es e
    cases h
    obtain ⟨c, a, b, xs, ys, q1, q2, q3, q4, q5, q6, q7⟩ := L.two i _ e
    obtain ⟨dx, dy⟩ := q7 ds es rfl
    exact ⟨_, q1, q _ H S .refl (.tup (SqT.of (hid_up _ _ q2)) (.cons (.lst (SqL.of q5) (DVs.same hid_up dx)) (.cons (.lst (SqL.of q6) (DVs.same hid_up dy)) .nil)))⟩
  · exact nomatch h
theorem de_var (i : Nat) {x : Str} {pos : Pos} (hN : X.N[i]? = some x := by rfl) (hv : Vis X.env.scope x := by first | exact Or.inl rfl | exact Or.inr (Or.inl rfl) | exact Or.inr (Or.inr rfl)) (hd : (x == ("__debug__" : Str)) = false := by decide)
    (hcd : (x == ("__classdict__" : Str)) = false := by decide) : DE X E (.Name x pos) (fVar i) := ⟨_, pe_var hN hv hd hcd, rd_var i⟩
def fC (d : PyData) (_ : List Sl) : M Rz := okM (.dat d)
theorem rd_C {K : PySem.W.Frag} {v : V} {d : PyData} (h : ∀ H, DV K H v d) : RdE K E (tC v) (fC d) := by
  intro H0 σ H δ S Q r L e q
  cases e
  exact q v H S .refl (h _)
theorem de_int {i j pos} : DE X E (.Constant (.int i) j pos) (fC (.int i)) := ⟨_, pe_int, rd_C fun _ => .int i⟩
theorem de_bl {b j pos} : DE X E (.Constant (.bool b) j pos) (fC (.bool b)) := ⟨_, pe_bl, rd_C fun _ => .bl b⟩
theorem de_non {j pos} : DE X E (.Constant .none j pos) (fC .none) := ⟨_, pe_non, rd_C fun _ => .non⟩
theorem de_str {x j pos} : DE X E (.Constant (.str x) j pos) (fC (.str x)) := ⟨_, pe_str, rd_C fun _ => .str x⟩
theorem de_glob {x : Str} {v : V} {u : Value} {d : PyData} {pos : Pos} (hm : X.mg x = some u) (r : RelV v u) (hd : ∀ H, DV X.K H v d) (hg : Gl X x := by rfl) (hdb : (x == ("__debug__" : Str)) = false := by decide) : DE X E (.Name x pos) (fC d) :=
  ⟨_, pe_glob hg hm r hdb, rd_C hd⟩

/-! ### two operands -/
def OpD (K : PySem.W.Frag) (E : XK) (r : R2) (g : Rz → Rz → M Rz) : Prop :=
  ∀ (H0 : Hp) (σ : L2.St) (H : Hp) (δ : List Sl) (S : Addr → Bool) (Ha Hb : Hp) (v w : V) (x y : Rz) (z : Res Rz) (Q : VK), Loc K H0 σ H δ S → RV K Ha H S v x → RV K Hb H S w y → g x y = some z → EndE K E H S Q z → r v w H Q
def f2 (g : Rz → Rz → M Rz) (fa fb : List Sl → M Rz) (δ : List Sl) : M Rz := bnd (fa δ) fun x => bnd (fb δ) fun y => g x y
theorem rd2 {K : PySem.W.Frag} {r : R2} {g : Rz → Rz → M Rz} {ta tb : TE} {fa fb : List Sl → M Rz} (hr : OpD K E r g) (ha : RdE K E ta fa) (hb : RdE K E tb fb) : RdE K E (tOp r ta tb) (f2 g fa fb) := by
  intro H0 σ H δ S Q z L h q
  rcases bnd_inv h with ⟨x, h1, h⟩ | ⟨C, h1, rfl⟩
  · refine ha H0 σ H δ S _ _ L h1 fun v H1 S1 g1 rv => ?_
    rcases bnd_inv h with ⟨y, h2, h⟩ | ⟨C, h2, rfl⟩
    · refine hb H0 σ H1 δ S1 _ _ (L.ext g1) h2 fun w H2 S2 g2 rw' => ?_
      exact hr H0 σ H2 δ S2 H H1 v w x y z Q ((L.ext g1).ext g2) (rv.ext g2) rw' h (q.ext (g1.trans g2))
    · exact hb H0 σ H1 δ S1 _ _ (L.ext g1) h2 (EndE.ext g1 q)
  · exact ha H0 σ H δ S _ _ L h1 q
theorem de_bin {a b : Expr} {pos : Pos} {op : Operator} {r : R2} {g : Rz → Rz → M Rz} {fa fb : List Sl → M Rz} (ho : OpR X (binaryOp op) r) (hr : OpD X.K E r g) (ha : DE X E a fa) (hb : DE X E b fb) : DE X E (.BinOp a op b pos) (f2 g fa fb) :=
  let ⟨ta, a1, a2⟩ := ha; let ⟨tb, b1, b2⟩ := hb; ⟨_, pe_op ho a1 b1, rd2 hr a2 b2⟩
theorem de_cmp {a b : Expr} {pos : Pos} {op : CmpOp} {r : R2} {g : Rz → Rz → M Rz} {fa fb : List Sl → M Rz} (ho : OpR X (compareOp op) r) (hr : OpD X.K E r g) (ha : DE X E a fa) (hb : DE X E b fb) (hm : behindInMarks op b = false := by exact nomark _) : DE X E (.Compare a [op] [b] pos) (f2 g fa fb) :=
  let ⟨ta, a1, a2⟩ := ha; let ⟨tb, b1, b2⟩ := hb; ⟨_, pe_cmpR ho a1 b1 hm, rd2 hr a2 b2⟩
/-- a bool told -/
def boolOf (x : Rz) : M Bool :=
  match x.d? with
  | some (.bool b) => okM b
  | _ => none
def fB (f : List Sl → M Rz) (δ : List Sl) : M Bool := bnd (f δ) boolOf
theorem boolOf_inv {x : Rz} {r : Res Bool} (h : boolOf x = some r) : ∃ b, x.d? = some (.bool b) ∧ r = .ok b := by
  unfold boolOf at h
  split at h
  · rename_i b e; cases h; exact ⟨b, e, rfl⟩
  · cases h
theorem rd_test {K : PySem.W.Frag} {t : TE} {f : List Sl → M Rz} (h : RdE K E t f) : RdT K E (fun σ H Q => t σ H fun x H' => ∃ k, x = .bl k ∧ Q k H') (fB f) := by
  intro H0 σ H δ S Q z L e q
  rcases bnd_inv e with ⟨x, h1, e⟩ | ⟨C, h1, rfl⟩
  · obtain ⟨b, eb, rfl⟩ := boolOf_inv e
    refine h H0 σ H δ S _ _ L h1 fun v H1 S1 g1 rv => ?_
    have d := rv.full eb
    cases d
    exact ⟨b, rfl, q H1 S1 g1⟩
  · exact h H0 σ H δ S _ _ L h1 q
theorem dt_cmp {a b : Expr} {pos : Pos} {op : CmpOp} {r : R2} {g : Rz → Rz → M Rz} {fa fb : List Sl → M Rz} (ho : OpR X (compareOp op) r) (hr : OpD X.K E r g) (ha : DE X E a fa) (hb : DE X E b fb) (hm : behindInMarks op b = false := by exact nomark _) : DT X E (.Compare a [op] [b] pos) (fB (f2 g fa fb)) :=
  let ⟨ta, a1, a2⟩ := ha; let ⟨tb, b1, b2⟩ := hb; ⟨_, pt_cmpR ho a1 b1 hm, rd_test (rd2 hr a2 b2)⟩
theorem dt_val {e : Expr} {f : List Sl → M Rz} (h : DE X E e f) (he : ∀ whole, isTrue e X.env whole = (do let v ← whole; standAt e.pos; holding [v] (truthy v)) := by intro _; rfl) : DT X E e (fB f) :=
  let ⟨t, a, b⟩ := h; ⟨_, pt_val a he, rd_test b⟩
/-! ### and, or, not -/
def fNot (f : List Sl → M Bool) (δ : List Sl) : M Bool := bnd (f δ) fun b => okM (!b)
def fAnd (f g : List Sl → M Bool) (δ : List Sl) : M Bool := bnd (f δ) fun b => if b = true then g δ else okM false
def fOr (f g : List Sl → M Bool) (δ : List Sl) : M Bool := bnd (f δ) fun b => if b = true then okM true else g δ
theorem rd_not {K : PySem.W.Frag} {t : TT} {f : List Sl → M Bool} (h : RdT K E t f) : RdT K E (tNot t) (fNot f) := by
  intro H0 σ H δ S Q z L e q
  rcases bnd_inv e with ⟨x, h1, e⟩ | ⟨C, h1, rfl⟩
  · cases e
    exact h H0 σ H δ S _ _ L h1 fun H1 S1 g1 => q H1 S1 g1
  · exact h H0 σ H δ S _ _ L h1 q
theorem rd_and {K : PySem.W.Frag} {t u : TT} {f g : List Sl → M Bool} (h : RdT K E t f) (h' : RdT K E u g) : RdT K E (tAnd t u) (fAnd f g) := by
  intro H0 σ H δ S Q z L e q
  rcases bnd_inv e with ⟨x, h1, e⟩ | ⟨C, h1, rfl⟩
  · refine h H0 σ H δ S _ _ L h1 fun H1 S1 g1 => ?_
    cases x with
    | true => exact iteT (h' H0 σ H1 δ S1 _ _ (L.ext g1) e (EndT.ext g1 q))
    | false => cases e; exact iteF (q H1 S1 g1)
  · exact h H0 σ H δ S _ _ L h1 q
theorem rd_or {K : PySem.W.Frag} {t u : TT} {f g : List Sl → M Bool} (h : RdT K E t f) (h' : RdT K E u g) : RdT K E (tOr t u) (fOr f g) := by
  intro H0 σ H δ S Q z L e q
  rcases bnd_inv e with ⟨x, h1, e⟩ | ⟨C, h1, rfl⟩
  · refine h H0 σ H δ S _ _ L h1 fun H1 S1 g1 => ?_
    cases x with
    | false => exact iteF (h' H0 σ H1 δ S1 _ _ (L.ext g1) e (EndT.ext g1 q))
    | true => cases e; exact iteT (q H1 S1 g1)
  · exact h H0 σ H δ S _ _ L h1 q
variable {a b : Expr} {rest : List Expr} {pos : Pos}
theorem dt_not {f : List Sl → M Bool} (h : DT X E a f) : DT X E (.UnaryOp .Not a pos) (fNot f) := let ⟨t, a, b⟩ := h; ⟨_, pt_not a, rd_not b⟩
theorem dw_and1 {f : List Sl → M Bool} (h : DT X E a f) : DW X E (.BoolOp .And [a] pos) f := let ⟨t, a, b⟩ := h; ⟨_, pw_and1 a, b⟩
theorem dw_or1 {f : List Sl → M Bool} (h : DT X E a f) : DW X E (.BoolOp .Or [a] pos) f := let ⟨t, a, b⟩ := h; ⟨_, pw_or1 a, b⟩
theorem dw_and {f g : List Sl → M Bool} (h : DT X E a f) (h' : DW X E (.BoolOp .And (b :: rest) pos) g) : DW X E (.BoolOp .And (a :: b :: rest) pos) (fAnd f g) := let ⟨t, a, b⟩ := h; let ⟨u, c, d⟩ := h'; ⟨_, pw_and a c, rd_and b d⟩
theorem dw_or {f g : List Sl → M Bool} (h : DT X E a f) (h' : DW X E (.BoolOp .Or (b :: rest) pos) g) : DW X E (.BoolOp .Or (a :: b :: rest) pos) (fOr f g) := let ⟨t, a, b⟩ := h; let ⟨u, c, d⟩ := h'; ⟨_, pw_or a c, rd_or b d⟩
end
end D3

set_option Elab.async false
set_option linter.all false
set_option maxRecDepth 100000
set_option maxHeartbeats 4000000
namespace D3
open PySem PySem.Spec PyProof.Rows L2 L3
variable [Ecx]
/-! ### lists of data -/
theorem DVs.len {K : PySem.W.Frag} {H : Hp} : ∀ {xs : List V} {ds : List PyData}, DVs K H xs ds → xs.length = ds.length
  | _, _, .nil => rfl
  | _, _, .cons _ t => by rw [List.length_cons, List.length_cons, DVs.len t]
theorem DVs.get {K : PySem.W.Frag} {H : Hp} : ∀ {xs : List V} {ds : List PyData} {i : Nat} {d : PyData}, DVs K H xs ds → ds[i]? = some d → ∃ v, xs[i]? = some v ∧ DV K H v d
  | _, _, _, _, .nil, h => by simp at h
  | _, _, 0, _, .cons h _, e => by simp at e; subst e; exact ⟨_, rfl, h⟩
  | _, _, i + 1, _, .cons _ t, e => by
    have e' : _ := e
    simp at e'
    obtain ⟨v, h1, h2⟩ := DVs.get t e'
    exact ⟨v, by simpa using h1, h2⟩
theorem DVs.atI {K : PySem.W.Frag} {H : Hp} {xs : List V} {ds : List PyData} {i : Int} {d : PyData} (h : DVs K H xs ds) (e : L2.atI ds i = some d) : ∃ v, L2.atI xs i = some v ∧ DV K H v d := by
  unfold L2.atI at e ⊢
  rw [DVs.len h]
  cases q : ixN ds.length i with
  | none => rw [q] at e; cases e
  | some j => rw [q] at e; exact DVs.get h e
theorem DVs.append {K : PySem.W.Frag} {H : Hp} {ys : List V} {es : List PyData} (b : DVs K H ys es) : ∀ {xs : List V} {ds : List PyData}, DVs K H xs ds → DVs K H (xs ++ ys) (ds ++ es)
  | _, _, .nil => b
  | _, _, .cons h t => .cons h (DVs.append b t)
theorem DVs.drop {K : PySem.W.Frag} {H : Hp} : ∀ (n : Nat) {xs : List V} {ds : List PyData}, DVs K H xs ds → DVs K H (xs.drop n) (ds.drop n)
  | 0, _, _, h => h
  | n + 1, _, _, .nil => .nil
  | n + 1, _, _, .cons _ t => DVs.drop n t
theorem DVs.take {K : PySem.W.Frag} {H : Hp} : ∀ (n : Nat) {xs : List V} {ds : List PyData}, DVs K H xs ds → DVs K H (xs.take n) (ds.take n)
  | 0, _, _, h => by simp; exact .nil
  | n + 1, _, _, .nil => .nil
  | n + 1, _, _, .cons h t => .cons h (DVs.take n t)
theorem DVs.set {K : PySem.W.Frag} {H : Hp} {v : V} {d : PyData} (hv : DV K H v d) : ∀ (j : Nat) {xs : List V} {ds : List PyData}, DVs K H xs ds → DVs K H (xs.set j v) (ds.set j d)
  | _, _, _, .nil => .nil
  | 0, _, _, .cons _ t => .cons hv t
  | j + 1, _, _, .cons h t => .cons h (DVs.set hv j t)
theorem DVs.rep {K : PySem.W.Frag} {H : Hp} {xs : List V} {ds : List PyData} (h : DVs K H xs ds) : ∀ n : Nat, DVs K H (List.replicate n xs).flatten (List.replicate n ds).flatten
  | 0 => .nil
  | n + 1 => by rw [List.replicate_succ, List.replicate_succ, List.flatten_cons, List.flatten_cons]; exact DVs.append (DVs.rep h n) h
theorem DVs.dropLast {K : PySem.W.Frag} {H : Hp} {xs : List V} {ds : List PyData} (h : DVs K H xs ds) : DVs K H xs.dropLast ds.dropLast := by
  rw [List.dropLast_eq_take, List.dropLast_eq_take, DVs.len h]; exact DVs.take _ h
/-- its items, where a thing is a list or a tuple; those that are told of lists of one's own are seen in the hidden heap -/
def seqOf (x : Rz) : Option (Bool × List PyData) :=
  match x.d? with
  | some (.list ds) => some (true, ds)
  | some (.tuple ds) => some (false, ds)
  | _ => none
/-- the items may be kept: they hold no list that may be changed -/
def kept (x : Rz) (ds : List PyData) : Bool :=
  match x with
  | .use _ => noLs ds
  | _ => true
theorem seq_list {K : PySem.W.Frag} {H0 Ha H : Hp} {σ : L2.St} {δ : List Sl} {S : Addr → Bool} {v : V} {x : Rz} {ds : List PyData} (L : Loc K H0 σ H δ S) (r : RV K Ha H S v x) (h : x.d? = some (.list ds)) :
    ∃ a xs, v = .ref a ∧ SqL K H a xs ∧ DVs K H xs ds ∧ (kept x ds = true → DVs K (hid H S) xs ds) := by
  cases x with
  | dat d =>
    cases h
    have r' : DV K (hid H S) v (.list ds) := r
    cases r' with
    | lst hs hx => exact ⟨_, _, rfl, hid_up.seq hs, DVs.same hid_up hx, fun _ => hx⟩
  | use d =>
    cases h
    have r' : DV K H v (.list ds) := r
    cases r' with
    | lst hs hx => exact ⟨_, _, rfl, hs, hx, fun k => DVs.ts L.tk hx k⟩
  | new es =>
    cases h
    obtain ⟨a, xs, rfl, _, _, ha, hx⟩ := r
    exact ⟨a, xs, rfl, SqL.of ha, DVs.same hid_up hx, fun _ => hx⟩
  | var es =>
    cases h
    obtain ⟨a, xs, rfl, _, ha, hx⟩ := r
    exact ⟨a, xs, rfl, SqL.of ha, DVs.same hid_up hx, fun _ => hx⟩
  | exc C => cases h
theorem seq_tup {K : PySem.W.Frag} {H0 Ha H : Hp} {σ : L2.St} {δ : List Sl} {S : Addr → Bool} {v : V} {x : Rz} {ds : List PyData} (L : Loc K H0 σ H δ S) (r : RV K Ha H S v x) (h : x.d? = some (.tuple ds)) :
    ∃ a xs, v = .ref a ∧ SqT K H a xs ∧ DVs K H xs ds ∧ (kept x ds = true → DVs K (hid H S) xs ds ∧ SqT K (hid H S) a xs) := by
  cases x with
  | dat d =>
    cases h
    have r' : DV K (hid H S) v (.tuple ds) := r
    cases r' with
    | tup hs hx => exact ⟨_, _, rfl, SameT hid_up hs, DVs.same hid_up hx, fun _ => ⟨hx, hs⟩⟩
  | use d =>
    cases h
    have r' : DV K H v (.tuple ds) := r
    cases r' with
    | tup hs hx => exact ⟨_, _, rfl, hs, hx, fun k => ⟨DVs.ts L.tk hx k, L.tk.tup hs⟩⟩
  | new es => cases h
  | var es => cases h
  | exc C => cases h

/-! ### numbers -/
def gI (g : Int → Int → Option PyData) (x y : Rz) : M Rz :=
  match x.d?, y.d? with
  | some (.int i), some (.int j) => (match g i j with | some d => okM (.dat d) | none => none)
  | _, _ => none
theorem gI_inv {g : Int → Int → Option PyData} {x y : Rz} {z : Res Rz} (h : gI g x y = some z) : ∃ i j d, x.d? = some (.int i) ∧ y.d? = some (.int j) ∧ g i j = some d ∧ z = .ok (.dat d) := by
  unfold gI at h
  split at h
  · rename_i i j e1 e2
    split at h
    · rename_i d e3; cases h; exact ⟨i, j, d, e1, e2, e3, rfl⟩
    · cases h
  · cases h
theorem od_I {K : PySem.W.Frag} {E : XK} {C : Int → Int → Prop} {g : Int → Int → V} {g' : Int → Int → Option PyData} (hg : ∀ i j d, g' i j = some d → C i j ∧ ∀ H, DV K H (g i j) d) : OpD K E (rI C g) (gI g') := by
  intro H0 σ H δ S Ha Hb v w x y z Q L rx ry h q
  obtain ⟨i, j, d, e1, e2, e3, rfl⟩ := gI_inv h
  have d1 := rx.full e1
  have d2 := ry.full e2
  cases d1; cases d2
  obtain ⟨hc, hv⟩ := hg i j d e3
  exact ⟨i, j, rfl, rfl, hc, q _ H S .refl (hv _)⟩
theorem od_I0 {K : PySem.W.Frag} {E : XK} {g : Int → Int → V} {g' : Int → Int → Option PyData} (hg : ∀ i j d, g' i j = some d → ∀ H, DV K H (g i j) d) : OpD K E (rI0 g) (gI g') := by
  intro H0 σ H δ S Ha Hb v w x y z Q L rx ry h q
  obtain ⟨i, j, d, e1, e2, e3, rfl⟩ := gI_inv h
  have d1 := rx.full e1
  have d2 := ry.full e2
  cases d1; cases d2
  exact ⟨i, j, rfl, rfl, q _ H S .refl (hg i j d e3 _)⟩
open Classical in
noncomputable def gMul (i j : Int) : Option PyData := if IntMulOk i j then some (.int (i * j)) else none
open Classical in
noncomputable def gFdiv (i j : Int) : Option PyData := if j ≠ 0 ∧ j.natAbs < 2 ^ 9000 then some (.int (i.fdiv j)) else none
def gAdd (i j : Int) : Option PyData := some (.int (i + j))
def gSub (i j : Int) : Option PyData := some (.int (i - j))
def gMod (i j : Int) : Option PyData := if j = 0 then none else some (.int (i.fmod j))
open Classical in
def gLt (i j : Int) : Option PyData := some (.bool (decide (i < j)))
def gGt (i j : Int) : Option PyData := some (.bool (decide (j < i)))
section
variable {K : PySem.W.Frag} {E : XK}
theorem od_add : OpD K E (rI0 fun i j => .int (i + j)) (gI gAdd) := od_I0 fun i j d h H => by cases h; exact .int _
theorem od_sub : OpD K E (rI0 fun i j => .int (i - j)) (gI gSub) := od_I0 fun i j d h H => by cases h; exact .int _
theorem od_lt : OpD K E (rI0 fun i j => .bl (decide (i < j))) (gI gLt) := od_I0 fun i j d h H => by cases h; exact .bl _
theorem od_gt : OpD K E (rI0 fun i j => .bl (decide (j < i))) (gI gGt) := od_I0 fun i j d h H => by cases h; exact .bl _
theorem od_mul : OpD K E (rI IntMulOk fun i j => .int (i * j)) (gI gMul) := od_I fun i j d h => by
  unfold gMul at h
  split at h
  · cases h; exact ⟨by assumption, fun _ => .int _⟩
  · cases h
theorem od_fdiv : OpD K E (rI (fun _ j => j ≠ 0 ∧ j.natAbs < 2 ^ 9000) fun i j => .int (i.fdiv j)) (gI gFdiv) := od_I fun i j d h => by
  unfold gFdiv at h
  split at h
  · cases h; exact ⟨by assumption, fun _ => .int _⟩
  · cases h
theorem od_mod : OpD K E (rI (fun _ j => j ≠ 0) fun i j => .int (i.fmod j)) (gI gMod) := od_I fun i j d h => by
  unfold gMod at h
  split at h
  · cases h
  · cases h; exact ⟨by assumption, fun _ => .int _⟩
/-! ### ==, is -/
def gEq (neg : Bool) (x y : Rz) : M Rz :=
  match x.d?, y.d? with
  | some d, some e => if okD d = true ∧ okD e = true then okM (.dat (.bool (if neg then !PyData.eqv d e else PyData.eqv d e))) else none
  | _, _ => none
theorem gEq_inv {neg : Bool} {x y : Rz} {z : Res Rz} (h : gEq neg x y = some z) : ∃ d e, x.d? = some d ∧ y.d? = some e ∧ okD d = true ∧ okD e = true ∧ z = .ok (.dat (.bool (if neg then !PyData.eqv d e else PyData.eqv d e))) := by
  unfold gEq at h
  split at h
  · rename_i d e e1 e2
    split at h
    · rename_i c; cases h; exact ⟨d, e, e1, e2, c.1, c.2, rfl⟩
    · cases h
  · cases h
theorem od_eq : OpD K E (rEqD K) (gEq false) := by
  intro H0 σ H δ S Ha Hb v w x y z Q L rx ry h q
  obtain ⟨d, e, e1, e2, o1, o2, rfl⟩ := gEq_inv h
  exact ⟨d, e, rx.full e1, ry.full e2, o1, o2, q _ H S .refl (.bl _)⟩
theorem od_ne : OpD K E (rNeD K) (gEq true) := by
  intro H0 σ H δ S Ha Hb v w x y z Q L rx ry h q
  obtain ⟨d, e, e1, e2, o1, o2, rfl⟩ := gEq_inv h
  exact ⟨d, e, rx.full e1, ry.full e2, o1, o2, q _ H S .refl (.bl _)⟩
/-! ### items -/
def itemD (x : Rz) (d : PyData) : Rz :=
  match x with
  | .use _ => if noL d = true then .dat d else .use d
  | _ => .dat d
def gIx (x y : Rz) : M Rz :=
  match seqOf x, y.d? with
  | some (_, ds), some (.int i) => (match L2.atI ds i with | some d => okM (itemD x d) | none => none)
  | _, _ => none
theorem item_ok {H0 H : Hp} {σ : L2.St} {δ : List Sl} {S : Addr → Bool} {x : Rz} {d : PyData} {i : Int} {xs : List V} {ds : List PyData} (L : Loc K H0 σ H δ S) (hx : DVs K H xs ds) (hk : kept x ds = true → DVs K (hid H S) xs ds) (e : L2.atI ds i = some d) :
    ∃ w, L2.atI xs i = some w ∧ ∀ Hc, RV K Hc H S w (itemD x d) := by
  obtain ⟨w, e1, dw⟩ := DVs.atI hx e
  refine ⟨w, e1, fun Hc => ?_⟩
  cases x with
  | use z =>
    unfold itemD
    dsimp only
    split
    · rename_i c; exact DV.ts L.tk dw c
    · exact dw
  | dat z =>
    obtain ⟨w', e2, dw'⟩ := DVs.atI (hk rfl) e
    rw [e1] at e2; cases e2; exact dw'
  | new z =>
    obtain ⟨w', e2, dw'⟩ := DVs.atI (hk rfl) e
    rw [e1] at e2; cases e2; exact dw'
  | var z =>
    obtain ⟨w', e2, dw'⟩ := DVs.atI (hk rfl) e
    rw [e1] at e2; cases e2; exact dw'
  | exc z =>
    obtain ⟨w', e2, dw'⟩ := DVs.atI (hk rfl) e
    rw [e1] at e2; cases e2; exact dw'
theorem od_ix : OpD K E (rIx K) gIx := by
  intro H0 σ H δ S Ha Hb v w x y z Q L rx ry h q
  unfold gIx at h
  split at h
  · rename_i b ds i e1 e2
    split at h
    · rename_i d e3
      cases h
      have d2 := ry.full e2
      cases d2
      unfold seqOf at e1
      split at e1
      · rename_i es e4
        cases e1
        obtain ⟨a, xs, rfl, hs, hx, hk⟩ := seq_list L rx e4
        obtain ⟨u, e5, ru⟩ := item_ok L hx hk e3
        exact .inl ⟨a, xs, i, u, rfl, rfl, hs, e5, q _ H S .refl (ru _)⟩
      · rename_i es e4
        cases e1
        obtain ⟨a, xs, rfl, hs, hx, hk⟩ := seq_tup L rx e4
        obtain ⟨u, e5, ru⟩ := item_ok L hx (fun k => (hk k).1) e3
        exact .inr (.inl ⟨a, xs, i, u, rfl, rfl, hs, e5, q _ H S .refl (ru _)⟩)
      · cases e1
    · cases h
  · cases h
/-! ### list + list, list * int -/
def ownOf (x : Rz) : Option (List PyData) :=
  match x with
  | .new ds => some ds
  | .var ds => some ds
  | _ => none
theorem own_ok {Ha H : Hp} {S : Addr → Bool} {v : V} {x : Rz} {ds : List PyData} (r : RV K Ha H S v x) (h : ownOf x = some ds) : ∃ a xs, v = .ref a ∧ S a = true ∧ H a = some (.lst xs) ∧ DVs K (hid H S) xs ds := by
  cases x with
  | new es => cases h; obtain ⟨a, xs, e, z, _, q⟩ := r; exact ⟨a, xs, e, z, q⟩
  | var es => cases h; exact r
  | dat d => cases h
  | use d => cases h
  | exc d => cases h
def gCat (x y : Rz) : M Rz :=
  match ownOf x, ownOf y with
  | some ds, some es => if ds.length + es.length ≤ sizeLine then okM (.new (ds ++ es)) else none
  | _, _ => none
theorem od_cat : OpD K E rCat gCat := by
  intro H0 σ H δ S Ha Hb v w x y z Q L rx ry h q
  unfold gCat at h
  split at h
  · rename_i ds es e1 e2
    split at h
    · rename_i hz
      cases h
      obtain ⟨a, xs, rfl, _, ha, hx⟩ := own_ok rx e1
      obtain ⟨b, ys, rfl, _, hb, hy⟩ := own_ok ry e2
      refine ⟨a, b, xs, ys, rfl, rfl, ha, hb, by rw [DVs.len hx, DVs.len hy]; exact hz, fun p hp => ?_⟩
      exact q _ _ (ins S p) (Ext.ins hp) ⟨p, _, rfl, ins_same, hp, upd_same, by rw [hid_ins hp]; exact DVs.append hy hx⟩
    · cases h
  · cases h
def gRep (x y : Rz) : M Rz :=
  match ownOf x, y.d? with
  | some ds, some (.int k) => if -(2 ^ 63) ≤ k ∧ k < 2 ^ 63 ∧ ds.length * k.toNat ≤ sizeLine then okM (.new (List.replicate k.toNat ds).flatten) else none
  | _, _ => none
theorem od_rep : OpD K E rRep gRep := by
  intro H0 σ H δ S Ha Hb v w x y z Q L rx ry h q
  unfold gRep at h
  split at h
  · rename_i ds k e1 e2
    split at h
    · rename_i hz
      cases h
      obtain ⟨a, xs, rfl, _, ha, hx⟩ := own_ok rx e1
      have d2 := ry.full e2
      cases d2
      refine ⟨a, k, xs, rfl, rfl, ha, hz.1, hz.2.1, by rw [DVs.len hx]; exact hz.2.2, fun p hp => ?_⟩
      exact q _ _ (ins S p) (Ext.ins hp) ⟨p, _, rfl, ins_same, hp, upd_same, by rw [hid_ins hp]; exact DVs.rep hx _⟩
    · cases h
  · cases h
theorem same_upd_hid {H : Hp} {S : Addr → Bool} {p : Addr} {o : HO} (L : ∀ b, S b = true → ∃ xs, H b = some (.lst xs)) (hp : H p = none) : hid (upd H p o) S p = some o := by
  cases e : S p with
  | true => obtain ⟨xs, z⟩ := L p e; rw [hp] at z; cases z
  | false => rw [hid_f e]; exact upd_same
end
end D3

set_option Elab.async false
set_option linter.all false
set_option maxRecDepth 100000
set_option maxHeartbeats 4000000
namespace D3
open PySem PySem.Spec PyProof.Rows L2 L3
variable [Ecx]
section
variable {X : Cx} {E : XK} {K : PySem.W.Frag}
/-! ### argument lists -/
def fNil (_ : List Sl) : M (List Rz) := okM []
def fCons (f : List Sl → M Rz) (g : List Sl → M (List Rz)) (δ : List Sl) : M (List Rz) := bnd (f δ) fun x => bnd (g δ) fun xs => okM (x :: xs)
theorem da_nil : DA X E [] fNil := ⟨_, pa_nil, fun H0 σ H δ S Q r L h q => by cases h; exact q [] H S .refl .nil⟩
theorem da_cons {e : Expr} {es : List Expr} {f : List Sl → M Rz} {g : List Sl → M (List Rz)} (ha : DE X E e f) (hr : DA X E es g) (hs : starEach (e :: es) X.env = (false, eval e X.env) :: starEach es X.env := by rfl) : DA X E (e :: es) (fCons f g) := by
  obtain ⟨t, a1, a2⟩ := ha
  obtain ⟨u, b1, b2⟩ := hr
  refine ⟨_, pa_cons a1 b1 hs, ?_⟩
  intro H0 σ H δ S Q z L h q
  rcases bnd_inv h with ⟨x, h1, h⟩ | ⟨C, h1, rfl⟩
  · refine a2 H0 σ H δ S _ _ L h1 fun v H1 S1 g1 rv => ?_
    rcases bnd_inv h with ⟨xs, h2, h⟩ | ⟨C, h2, rfl⟩
    · cases h
      refine b2 H0 σ H1 δ S1 _ _ (L.ext g1) h2 fun vs H2 S2 g2 rw' => ?_
      exact q _ H2 S2 (g1.trans g2) (.cons (rv.ext g2) (rw'.back g1))
    · exact b2 H0 σ H1 δ S1 _ _ (L.ext g1) h2 fun H2 S2 g2 => q H2 S2 (g1.trans g2)
  · exact a2 H0 σ H δ S _ _ L h1 q
/-! ### calls of built-ins -/
def CallD (K : PySem.W.Frag) (E : XK) (r : List V → Hp → VK → Prop) (g : List Rz → M Rz) : Prop :=
  ∀ (H0 : Hp) (σ : L2.St) (H : Hp) (δ : List Sl) (S : Addr → Bool) (Hs : Hp) (vs : List V) (zs : List Rz) (z : Res Rz) (Q : VK), Loc K H0 σ H δ S → RVs K Hs H S vs zs → g zs = some z → EndE K E H S Q z → r vs H Q
def fCall (g : List Rz → M Rz) (fa : List Sl → M (List Rz)) (δ : List Sl) : M Rz := bnd (fa δ) g
theorem rd_call {t : TA} {r : List V → Hp → VK → Prop} {g : List Rz → M Rz} {fa : List Sl → M (List Rz)} (hd : CallD K E r g) (ha : RdA K E t fa) : RdE K E (fun σ H Q => t σ H fun vs H1 => r vs H1 Q) (fCall g fa) := by
  intro H0 σ H δ S Q z L h q
  rcases bnd_inv h with ⟨x, h1, h⟩ | ⟨C, h1, rfl⟩
  · refine ha H0 σ H δ S _ _ L h1 fun vs H1 S1 g1 rv => ?_
    exact hd H0 σ H1 δ S1 H vs x z Q (L.ext g1) rv h (q.ext g1)
  · exact ha H0 σ H δ S _ _ L h1 q
theorem de_callB {x : Str} {p pos : Pos} {e : Expr} {es : List Expr} {id : String} {r : List V → Hp → VK → Prop} {g : List Rz → M Rz} {fa : List Sl → M (List Rz)} (hc : CallR X (.builtin id) r) (hd : CallD X.K E r g) (hm : X.mg x = none) (hv : bootBuiltins x = some (.builtin id)) (ha : DA X E (e :: es) fa)
    (hg : Gl X x := by rfl) (hn : x ≠ "__name__" := by decide) (hdb : (x == ("__debug__" : Str)) = false := by decide) (he : starEach (e :: es) X.env = (false, eval e X.env) :: starEach es X.env := by rfl) (hpl : (backTo pos (starEach es X.env)).any (·.1) = false := by rfl) :
    DE X E (.Call (.Name x p) (e :: es) [] pos) (fCall g fa) :=
  let ⟨_, a, b⟩ := ha; ⟨_, pe_callB hc hg hm hv a hn hdb he hpl, rd_call hd b⟩
theorem de_callTy {x : Str} {p pos : Pos} {e : Expr} {es : List Expr} {id : String} {r : List V → Hp → VK → Prop} {g : List Rz → M Rz} {fa : List Sl → M (List Rz)} (hc : CallR X (.type id) r) (hd : CallD X.K E r g) (hm : X.mg x = none) (hv : bootBuiltins x = some (.type id)) (ha : DA X E (e :: es) fa)
    (hg : Gl X x := by rfl) (hn : x ≠ "__name__" := by decide) (hdb : (x == ("__debug__" : Str)) = false := by decide) (he : starEach (e :: es) X.env = (false, eval e X.env) :: starEach es X.env := by rfl) (hpl : (backTo pos (starEach es X.env)).any (·.1) = false := by rfl) :
    DE X E (.Call (.Name x p) (e :: es) [] pos) (fCall g fa) :=
  let ⟨_, a, b⟩ := ha; ⟨_, pe_callTy hc hg hm hv a hn hdb he hpl, rd_call hd b⟩
theorem rvs1 {Hs H : Hp} {S : Addr → Bool} {vs : List V} {x : Rz} (h : RVs K Hs H S vs [x]) : ∃ v, vs = [v] ∧ RV K Hs H S v x := by
  cases h with
  | cons a b => cases b; exact ⟨_, rfl, a⟩
theorem rvs2 {Hs H : Hp} {S : Addr → Bool} {vs : List V} {x y : Rz} (h : RVs K Hs H S vs [x, y]) : ∃ v w, vs = [v, w] ∧ RV K Hs H S v x ∧ RV K Hs H S w y := by
  cases h with
  | cons a b =>
    obtain ⟨w, rfl, c⟩ := rvs1 b
    exact ⟨_, w, rfl, a, c⟩
def g1 (g : Rz → M Rz) (zs : List Rz) : M Rz :=
  match zs with
  | [x] => g x
  | _ => none
def g2 (g : Rz → Rz → M Rz) (zs : List Rz) : M Rz :=
  match zs with
  | [x, y] => g x y
  | _ => none
theorem cd1 {r : V → Hp → VK → Prop} {g : Rz → M Rz} (h : ∀ (H0 : Hp) (σ : L2.St) (H : Hp) (δ : List Sl) (S : Addr → Bool) (Hs : Hp) (v : V) (x : Rz) (z : Res Rz) (Q : VK), Loc K H0 σ H δ S → RV K Hs H S v x → g x = some z → EndE K E H S Q z → r v H Q)
    {r' : List V → Hp → VK → Prop} (hr : ∀ v H Q, r v H Q → r' [v] H Q) : CallD K E r' (g1 g) := by
  intro H0 σ H δ S Hs vs zs z Q L rs h' q
  unfold g1 at h'
  split at h'
  · obtain ⟨v, rfl, rv⟩ := rvs1 rs
    exact hr _ _ _ (h H0 σ H δ S Hs v _ z Q L rv h' q)
  · cases h'
def lenOf (x : Rz) : M Rz :=
  match seqOf x with
  | some (_, ds) => okM (.dat (.int ds.length))
  | none => none
theorem cd_len : CallD K E (fun xs H Q => ∃ p ys, xs = [.ref p] ∧ (SqL K H p ys ∨ SqT K H p ys) ∧ Q (.int ys.length) H) (g1 lenOf) := by
  refine cd1 (r := fun v H Q => ∃ p ys, [v] = [V.ref p] ∧ (SqL K H p ys ∨ SqT K H p ys) ∧ Q (.int ys.length) H) (fun H0 σ H δ S Hs v x z Q L rv h q => ?_) (fun _ _ _ h => h)
  unfold lenOf at h
  split at h
  · rename_i b ds e
    cases h
    unfold seqOf at e
    split at e
    · rename_i es e4
      cases e
      obtain ⟨a, xs, rfl, hs, hx, _⟩ := seq_list L rv e4
      refine ⟨a, xs, rfl, .inl hs, ?_⟩
      rw [DVs.len hx]; exact q _ H S .refl (.int _)
    · rename_i es e4
      cases e
      obtain ⟨a, xs, rfl, hs, hx, _⟩ := seq_tup L rv e4
      refine ⟨a, xs, rfl, .inr hs, ?_⟩
      rw [DVs.len hx]; exact q _ H S .refl (.int _)
    · cases e
  · cases h
def absOf (x : Rz) : M Rz :=
  match x.d? with
  | some (.int i) => okM (.dat (.int (if i < 0 then -i else i)))
  | _ => none
theorem cd_abs : CallD K E (fun xs H Q => ∃ i, xs = [.int i] ∧ Q (.int (if i < 0 then -i else i)) H) (g1 absOf) := by
  refine cd1 (r := fun v H Q => ∃ i, [v] = [V.int i] ∧ Q (.int (if i < 0 then -i else i)) H) (fun H0 σ H δ S Hs v x z Q L rv h q => ?_) (fun _ _ _ h => h)
  unfold absOf at h
  split at h
  · rename_i i e
    cases h
    have d := rv.full e
    cases d
    exact ⟨i, rfl, q _ H S .refl (.int _)⟩
  · cases h
def gMax (i j : Int) : Option PyData := some (.int (if j > i then j else i))
theorem cd_I2 {g : Int → Int → Int} : CallD K E (fun xs H Q => ∃ i j, xs = [.int i, .int j] ∧ Q (.int (g i j)) H) (g2 (gI fun i j => some (.int (g i j)))) := by
  intro H0 σ H δ S Hs vs zs z Q L rs h q
  unfold g2 at h
  split at h
  · obtain ⟨v, w, rfl, r1, r2⟩ := rvs2 rs
    obtain ⟨i, j, d, e1, e2, e3, rfl⟩ := gI_inv h
    have d1 := r1.full e1
    have d2 := r2.full e2
    cases d1; cases d2; cases e3
    exact ⟨i, j, rfl, q _ H S .refl (.int _)⟩
  · cases h
theorem cd_max : CallD K E (fun xs H Q => ∃ i j, xs = [.int i, .int j] ∧ Q (.int (if j > i then j else i)) H) (g2 (gI gMax)) := cd_I2 (g := fun i j => if j > i then j else i)
/-- tuple(x), list(x) -/
def tupleOf (x : Rz) : M Rz :=
  match x.d? with
  | some (.list ds) => if kept x ds = true then okM (.dat (.tuple ds)) else none
  | some (.tuple ds) => if kept x ds = true then okM (.dat (.tuple ds)) else none
  | _ => none
theorem cd_tuple : CallD K E (fun xs H Q => ∃ p ys, xs = [.ref p] ∧ ((SqL K H p ys ∧ ∀ l, H l = none → Q (.ref l) (upd H l (.tup ys))) ∨ (SqT K H p ys ∧ Q (.ref p) H))) (g1 tupleOf) := by
  refine cd1 (r := fun v H Q => ∃ p ys, [v] = [V.ref p] ∧ ((SqL K H p ys ∧ ∀ l, H l = none → Q (.ref l) (upd H l (.tup ys))) ∨ (SqT K H p ys ∧ Q (.ref p) H))) (fun H0 σ H δ S Hs v x z Q L rv h q => ?_) (fun _ _ _ h => h)
  unfold tupleOf at h
  split at h
  · rename_i ds e
    split at h
    · rename_i k
      cases h
      obtain ⟨a, xs, rfl, hs, hx, hk⟩ := seq_list L rv e
      refine ⟨a, xs, rfl, .inl ⟨hs, fun l hl => ?_⟩⟩
      have g : Ext H S (upd H l (.tup xs)) S := Ext.same (same_new hl _)
      exact q _ _ S g (.tup (SqT.of (same_upd_hid L.lst hl)) (DVs.same g.hd (hk k)))
    · cases h
  · rename_i ds e
    split at h
    · rename_i k
      cases h
      obtain ⟨a, xs, rfl, hs, hx, hk⟩ := seq_tup L rv e
      exact ⟨a, xs, rfl, .inr ⟨hs, q _ H S .refl (.tup (hk k).2 (hk k).1)⟩⟩
    · cases h
  · cases h
def listOf (x : Rz) : M Rz :=
  match seqOf x with
  | some (_, ds) => if kept x ds = true then okM (.new ds) else none
  | none => none
theorem cd_list : CallD K E (fun xs H Q => ∃ p ys, xs = [.ref p] ∧ (SqL K H p ys ∨ SqT K H p ys) ∧ ∀ l, H l = none → Q (.ref l) (upd H l (.lst ys))) (g1 listOf) := by
  refine cd1 (r := fun v H Q => ∃ p ys, [v] = [V.ref p] ∧ (SqL K H p ys ∨ SqT K H p ys) ∧ ∀ l, H l = none → Q (.ref l) (upd H l (.lst ys))) (fun H0 σ H δ S Hs v x z Q L rv h q => ?_) (fun _ _ _ h => h)
  have fin : ∀ {xs : List V} {ds : List PyData}, DVs K (hid H S) xs ds → z = .ok (.new ds) → ∀ l, H l = none → Q (.ref l) (upd H l (.lst xs)) := fun {xs ds} hx e l hl => by
    subst e
    exact q _ _ (ins S l) (Ext.ins hl) ⟨l, xs, rfl, ins_same, hl, upd_same, by rw [hid_ins hl]; exact hx⟩
  unfold listOf at h
  split at h
  · rename_i b ds e
    split at h
    · rename_i k
      cases h
      unfold seqOf at e
      split at e
      · rename_i es e4
        cases e
        obtain ⟨a, xs, rfl, hs, hx, hk⟩ := seq_list L rv e4
        exact ⟨a, xs, rfl, .inl hs, fin (hk k) rfl⟩
      · rename_i es e4
        cases e
        obtain ⟨a, xs, rfl, hs, hx, hk⟩ := seq_tup L rv e4
        exact ⟨a, xs, rfl, .inr hs, fin (hk k).1 rfl⟩
      · cases e
    · cases h
  · cases h
/-! ### displays -/
def datOf (x : Rz) : Option PyData :=
  match x with
  | .dat d => some d
  | .use d => if noL d = true then some d else none
  | _ => none
theorem datOf_ok {H0 Hs H : Hp} {σ : L2.St} {δ : List Sl} {S : Addr → Bool} {v : V} {x : Rz} {d : PyData} (L : Loc K H0 σ H δ S) (r : RV K Hs H S v x) (h : datOf x = some d) : DV K (hid H S) v d := by
  cases x with
  | dat e => cases h; exact r
  | use e =>
    unfold datOf at h
    dsimp only at h
    split at h
    · cases h; exact DV.ts L.tk r (by assumption)
    · cases h
  | new e => cases h
  | var e => cases h
  | exc e => cases h
def datsOf : List Rz → Option (List PyData)
  | [] => some []
  | x :: xs => match datOf x, datsOf xs with
    | some d, some ds => some (d :: ds)
    | _, _ => none
theorem datsOf_ok {H0 Hs H : Hp} {σ : L2.St} {δ : List Sl} {S : Addr → Bool} (L : Loc K H0 σ H δ S) : ∀ {vs : List V} {zs : List Rz} {ds : List PyData}, RVs K Hs H S vs zs → datsOf zs = some ds → DVs K (hid H S) vs ds
  | _, _, _, .nil, h => by cases h; exact .nil
  | _, _, _, .cons r t, h => by
    unfold datsOf at h
    split at h
    · rename_i d ds e1 e2
      cases h
      exact .cons (datOf_ok L r e1) (datsOf_ok L t e2)
    · cases h
def gTup (zs : List Rz) : M Rz :=
  match datsOf zs with
  | some ds => if ds.length ≤ sizeLine then okM (.dat (.tuple ds)) else none
  | none => none
def gLst (zs : List Rz) : M Rz :=
  match datsOf zs with
  | some ds => if ds.length ≤ sizeLine then okM (.new ds) else none
  | none => none
theorem de_tup {es : List Expr} {x1} {pos : Pos} {fa : List Sl → M (List Rz)} (h : DA X E es fa) : DE X E (.Tuple es x1 pos) (fCall gTup fa) := by
  obtain ⟨t, a, b⟩ := h
  refine ⟨_, pe_tup a, rd_call (r := fun xs H1 Q => xs.length ≤ sizeLine ∧ ∀ p, H1 p = none → Q (.ref p) (upd H1 p (.tup xs))) ?_ b⟩
  intro H0 σ H δ S Hs vs zs z Q L rs h q
  unfold gTup at h
  split at h
  · rename_i ds e
    split at h
    · rename_i hl
      cases h
      have hx := datsOf_ok L rs e
      refine ⟨by rw [DVs.len hx]; exact hl, fun p hp => ?_⟩
      have g : Ext H S (upd H p (.tup vs)) S := Ext.same (same_new hp _)
      exact q _ _ S g (.tup (SqT.of (same_upd_hid L.lst hp)) (DVs.same g.hd hx))
    · cases h
  · cases h
theorem de_lst {es : List Expr} {pos : Pos} {fa : List Sl → M (List Rz)} (h : DA X E es fa) : DE X E (.List es pos) (fCall gLst fa) := by
  obtain ⟨t, a, b⟩ := h
  refine ⟨_, pe_lst a, rd_call (r := fun xs H1 Q => xs.length ≤ sizeLine ∧ ∀ p, H1 p = none → Q (.ref p) (upd H1 p (.lst xs))) ?_ b⟩
  intro H0 σ H δ S Hs vs zs z Q L rs h q
  unfold gLst at h
  split at h
  · rename_i ds e
    split at h
    · rename_i hl
      cases h
      have hx := datsOf_ok L rs e
      refine ⟨by rw [DVs.len hx]; exact hl, fun p hp => ?_⟩
      exact q _ _ (ins S p) (Ext.ins hp) ⟨p, vs, rfl, ins_same, hp, upd_same, by rw [hid_ins hp]; exact hx⟩
    · cases h
  · cases h
end
end D3

set_option Elab.async false
set_option linter.all false
set_option maxRecDepth 100000
set_option maxHeartbeats 4000000
namespace D3
open PySem PySem.Spec PyProof.Rows L2 L3
variable [Ecx]
/-- what a place of the text brings along -/
structure Fit (n : Nat) (X : Cx) (E : XK) : Prop where
  hx : Passes (CXR X.prog X.w) X E
  ra : RaisesTo X E
  po : PassesOwn (model X.prog X.w) X.A X.env X.xe
  cm : X.calm = true
  rm : Room n X.A
  nd : X.N.Nodup
inductive Out where
  | val (d : PyData)
  | fresh (ds : List PyData)
  | mine (d : PyData)
  | two (ds es : List PyData)
  | lsts (ds : List PyData)
  | newls (ds : List PyData)
  | tl (d : PyData) (ds : List PyData)
inductive Fl where
  | next (δ : List Sl)
  | ret (o : Out)
  | brk (δ : List Sl)
  | cnt (δ : List Sl)
  | exc (C : Ex)
/-- the heap without the lists that were there before -/
def newL (H0 H : Hp) : Hp := fun b => match H0 b with
  | none => H b
  | some _ => (match H b with | some (.lst _) => none | o => o)
theorem newL_up {H0 H : Hp} : Same (newL H0 H) H := fun b o h => by
  unfold newL at h
  split at h
  · exact h
  · split at h
    · cases h
    · exact h
theorem newL_mono {H0 H1 H : Hp} (g : Same H0 H1) : Same (newL H1 H) (newL H0 H) := fun b o h => by
  unfold newL at *
  cases e1 : H1 b with
  | none =>
    rw [e1] at h
    rw [g.free e1]; exact h
  | some u =>
    rw [e1] at h
    dsimp only at h
    cases e0 : H0 b with
    | none =>
      dsimp only
      split at h
      · cases h
      · exact h
    | some u' => exact h
def wo (H : Hp) (a : Addr) : Hp := fun b => if b = a then none else H b
theorem wo_up {H : Hp} {a : Addr} : Same (wo H a) H := fun b o h => by
  unfold wo at h
  split at h
  · cases h
  · exact h
theorem wo_hid {H : Hp} {S : Addr → Bool} {a : Addr} (h : S a = true) : Same (hid H S) (wo H a) := fun b o e => by
  have : b ≠ a := by intro z; subst z; rw [hid_t h] at e; cases e
  unfold wo
  rw [if_neg this]; exact hid_up _ _ e
def RetOk (K : PySem.W.Frag) (H0 : Hp) (Q : VK) : Out → Prop
  | .val d => ∀ v H, Same H0 H → DV K H v d → Q v H
  | .fresh ds => ∀ a xs H, Same H0 H → H0 a = none → H a = some (.lst xs) → DVs K H xs ds → noLs ds = true → Q (.ref a) H
  | .mine d => ∀ v H, Same H0 H → DV K (newL H0 H) v d → Q v H
  | .two ds es => ∀ c a b xs ys H, Same H0 H → H0 c = none → H0 a = none → H0 b = none → H c = some (.tup [.ref a, .ref b]) → H a = some (.lst xs) → H b = some (.lst ys) → DVs K H xs ds → DVs K H ys es → noLs ds = true → noLs es = true → Q (.ref c) H
  | .lsts ds => ∀ a xs H, Same H0 H → H0 a = none → H a = some (.lst xs) → DVs K (wo H a) xs ds → Q (.ref a) H
  | .newls ds => ∀ a xs H, Same H0 H → H0 a = none → H a = some (.lst xs) → DVs K (newL H0 (wo H a)) xs ds → Q (.ref a) H
  | .tl d ds => ∀ c a v xs H, Same H0 H → H0 c = none → H0 a = none → H c = some (.tup [v, .ref a]) → H a = some (.lst xs) → DV K (wo H a) v d → DVs K (wo H a) xs ds → Q (.ref c) H
def EndS (K : PySem.W.Frag) (E : XK) (H0 : Hp) (D : Ends) : Fl → Prop
  | .next δ => ∀ σ H S, Loc K H0 σ H δ S → D.nx σ H
  | .brk δ => ∀ σ H S, Loc K H0 σ H δ S → D.bk σ H
  | .cnt δ => ∀ σ H S, Loc K H0 σ H δ S → D.ct σ H
  | .ret o => RetOk K H0 D.rt o
  | .exc C => ∀ H, Same H0 H → E (.ref (ecx C)) none H
def RdS (K : PySem.W.Frag) (E : XK) (t : TS) (f : List Sl → Option Fl) : Prop :=
  ∀ (H0 : Hp) (σ : L2.St) (H : Hp) (δ : List Sl) (S : Addr → Bool) (D : Ends) (fl : Fl), Loc K H0 σ H δ S → f δ = some fl → EndS K E H0 D fl → t D σ H
def DS (X : Cx) (E : XK) (st : Stmt) (f : List Sl → Option Fl) : Prop := ∃ t, PS X st t ∧ RdS X.K E t f
def DSs (X : Cx) (E : XK) (st : List Stmt) (f : List Sl → Option Fl) : Prop := ∃ t, PSs X st t ∧ RdS X.K E t f
/-- a ground further up serves too -/
theorem RetOk.up {K : PySem.W.Frag} {H0 H1 : Hp} {Q : VK} {o : Out} (g : Same H0 H1) (h : RetOk K H0 Q o) : RetOk K H1 Q o := by
  cases o with
  | val d => exact fun v H s => h v H (g.trans s)
  | fresh ds => exact fun a xs H s n => h a xs H (g.trans s) (g.free n)
  | mine d => exact fun v H s dv => h v H (g.trans s) (DV.same (newL_mono g) dv)
  | two ds es => exact fun c a b xs ys H s n1 n2 n3 => h c a b xs ys H (g.trans s) (g.free n1) (g.free n2) (g.free n3)
  | lsts ds => exact fun a xs H s n => h a xs H (g.trans s) (g.free n)
  | newls ds => exact fun a xs H s n ha hx => h a xs H (g.trans s) (g.free n) ha (DVs.same (newL_mono g) hx)
  | tl d ds => exact fun c a v xs H s n1 n2 => h c a v xs H (g.trans s) (g.free n1) (g.free n2)
/-! ### blocks -/
def fNext (δ : List Sl) : Option Fl := some (.next δ)
def fSeq (f g : List Sl → Option Fl) (δ : List Sl) : Option Fl :=
  match f δ with
  | some (.next δ') => g δ'
  | r => r
section
variable {X : Cx} {E : XK} {K : PySem.W.Frag}
theorem dss_nil : DSs X E [] fNext := ⟨_, pss_nil, fun H0 σ H δ S D fl L h q => by cases h; exact q σ H S L⟩
theorem rd_seq {t u : TS} {f g : List Sl → Option Fl} (ht : RdS K E t f) (hu : RdS K E u g) : RdS K E (tSeq t u) (fSeq f g) := by
  intro H0 σ H δ S D fl L h q
  unfold fSeq at h
  split at h
  · rename_i δ' e
    exact ht H0 σ H δ S _ _ L e fun σ1 H1 S1 L1 => hu H0 σ1 H1 δ' S1 D fl L1 h q
  · rename_i r hr
    refine ht H0 σ H δ S _ fl L h ?_
    cases fl with
    | next δ' => exact absurd h (hr δ')
    | ret o => exact q
    | brk δ' => exact q
    | cnt δ' => exact q
    | exc C => exact q
theorem dss_cons {st : Stmt} {rest : List Stmt} {f g : List Sl → Option Fl} (h1 : DS X E st f) (h2 : DSs X E rest g) : DSs X E (st :: rest) (fSeq f g) :=
  let ⟨_, a, b⟩ := h1; let ⟨_, c, d⟩ := h2; ⟨_, pss_cons a c, rd_seq b d⟩
theorem dss_one {st : Stmt} {f : List Sl → Option Fl} (h1 : DS X E st f) : DSs X E [st] f := let ⟨_, a, b⟩ := h1; ⟨_, pss_one a, b⟩
/-- an expression's end, then the statement's -/
def bS {α : Type} (m : M α) (k : α → Option Fl) : Option Fl :=
  match m with
  | some (.ok a) => k a
  | some (.err C) => some (.exc C)
  | none => none
theorem bS_inv {α : Type} {m : M α} {k : α → Option Fl} {r : Fl} (h : bS m k = some r) : (∃ a, m = some (.ok a) ∧ k a = some r) ∨ ∃ C, m = some (.err C) ∧ r = .exc C := by
  unfold bS at h
  split at h
  · exact .inl ⟨_, rfl, h⟩
  · cases h; exact .inr ⟨_, rfl, rfl⟩
  · cases h
theorem exc_ext {H0 H : Hp} {σ : L2.St} {δ : List Sl} {S : Addr → Bool} {D : Ends} {C : Ex} (L : Loc K H0 σ H δ S) (q : EndS K E H0 D (.exc C)) : ∀ H' S', Ext H S H' S' → E (.ref (ecx C)) none H' := fun H' S' g => q H' (L.old.trans g.up)
/-! ### name = value -/
def slotOf (x : Rz) : Option Sl :=
  match x with
  | .dat d => some (.dat d)
  | .new ds => some (.own ds)
  | .use d => if noL d = true then some (.dat d) else none
  | .exc C => some (.exc C)
  | .var _ => none
theorem Loc.slot {H0 Hs H : Hp} {σ : L2.St} {δ : List Sl} {S : Addr → Bool} {v : V} {x : Rz} {s : Sl} {i : Nat} (L : Loc K H0 σ H δ S) (hs : ∀ (j : Nat) (ds : List PyData), δ[j]? = some (Sl.own ds) → ∃ a, σ[j]? = some (some (V.ref a)) ∧ Hs a ≠ none) (hk : ∀ (j : Nat) (b : Addr), Kid (hid H S) σ δ j b → Hs b ≠ none) (r : RV K Hs H S v x) (h : slotOf x = some s) :
    Loc K H0 (σ.set i (some v)) H (δ.set i s) S := by
  cases x with
  | dat d => cases h; exact L.put (fun _ z => nomatch z) (fun d' e => by cases e; exact ⟨v, rfl, r⟩) (fun _ z => nomatch z)
  | new ds =>
    cases h
    obtain ⟨a, xs, rfl, z, n, ha, hx⟩ := r
    refine L.putOwn z ha hx (fun j es e c => ?_) fun j k => hk j a k n
    obtain ⟨b, e1, e2⟩ := hs j es e
    rw [c] at e1; cases e1
    exact e2 n
  | use d =>
    unfold slotOf at h
    dsimp only at h
    split at h
    · rename_i k
      cases h
      exact L.put (fun _ z => nomatch z) (fun d' e => by cases e; exact ⟨v, rfl, DV.ts L.tk r k⟩) (fun _ z => nomatch z)
    · cases h
  | var ds => cases h
  | exc C =>
    cases h
    obtain ⟨ea, rfl, z⟩ := r
    exact L.put (fun _ z => nomatch z) (fun _ z => nomatch z) (fun C' e => by cases e; exact ⟨ea, rfl, z⟩)
theorem Loc.owned {H0 H : Hp} {σ : L2.St} {δ : List Sl} {S : Addr → Bool} (L : Loc K H0 σ H δ S) : ∀ (j : Nat) (ds : List PyData), δ[j]? = some (Sl.own ds) → ∃ a, σ[j]? = some (some (V.ref a)) ∧ H a ≠ none := fun j ds e => by
  obtain ⟨a, xs, e1, _, e3, _⟩ := L.own j ds e
  exact ⟨a, e1, by rw [e3]; exact (fun z => nomatch z)⟩
def fSet (i : Nat) (f : List Sl → M Rz) (δ : List Sl) : Option Fl := bS (f δ) fun x => match slotOf x with | some s => some (.next (δ.set i s)) | none => none
theorem rd_set {i : Nat} {te : TE} {f : List Sl → M Rz} (h : RdE K E te f) : RdS K E (tAsg te (gName i)) (fSet i f) := by
  intro H0 σ H δ S D fl L e q
  rcases bS_inv e with ⟨x, h1, e⟩ | ⟨C, h1, rfl⟩
  · refine h H0 σ H δ S _ _ L h1 fun v H1 S1 g1 rv => ?_
    split at e
    · rename_i s e2
      cases e
      exact q _ H1 S1 ((L.ext g1).slot L.owned (L.kids g1) rv e2)
    · cases e
  · exact h H0 σ H δ S _ _ L h1 (exc_ext L q)
theorem ds_set (i : Nat) {x : Str} {e : Expr} {f : List Sl → M Rz} {pos pos' : Pos} (nd : X.N.Nodup) (he : DE X E e f) (hi : X.N[i]? = some x := by rfl) (hx : L2.Loc X.env.scope x := by first | exact Or.inl rfl | exact Or.inr rfl) (hs : swapsWith e (some (.Name x pos')) pos.line X.env = pure false := by rfl) (hf : X.fn x = true ∨ X.env.scope.names.lookup x = some .local := by first | exact .inl rfl | exact .inr rfl) :
    DS X E (.Assign [.Name x pos'] e pos) (fSet i f) := let ⟨_, a, b⟩ := he; ⟨_, ps_set nd hi hx a hs hf, rd_set b⟩
/-! ### targets -/
def RdG (K : PySem.W.Frag) (t : TG) (g : PyData → List Sl → Option (List Sl)) : Prop :=
  ∀ (H0 : Hp) (σ : L2.St) (H : Hp) (δ δ' : List Sl) (S : Addr → Bool) (v : V) (d : PyData) (Q : L2.St → Hp → Prop), Loc K H0 σ H δ S → DV K (hid H S) v d → g d δ = some δ' → (∀ σ', Loc K H0 σ' H δ' S → Q σ' H) → t v σ H Q
def DG (X : Cx) (tg : Expr) (g : PyData → List Sl → Option (List Sl)) : Prop := ∃ t, PG X tg t ∧ RdG X.K t g
def tName (i : Nat) (d : PyData) (δ : List Sl) : Option (List Sl) := some (δ.set i (.dat d))
theorem dg_name (i : Nat) {x : Str} {pos : Pos} (nd : X.N.Nodup) (hi : X.N[i]? = some x := by rfl) (hx : L2.Loc X.env.scope x := by first | exact Or.inl rfl | exact Or.inr rfl) (hf : X.fn x = true ∨ X.env.scope.names.lookup x = some .local := by first | exact .inl rfl | exact .inr rfl) : DG X (.Name x pos) (tName i) :=
  ⟨_, pg_name nd hi hx hf, fun H0 σ H δ δ' S v d Q L dv h q => by
    cases h
    exact q _ (L.put (fun _ z => nomatch z) (fun d' e => by cases e; exact ⟨v, rfl, dv⟩) (fun _ z => nomatch z))⟩
def RdGs (K : PySem.W.Frag) (t : TGs) (g : List PyData → List Sl → Option (List Sl)) : Prop :=
  ∀ (H0 : Hp) (σ : L2.St) (H : Hp) (δ δ' : List Sl) (S : Addr → Bool) (vs : List V) (ds : List PyData) (Q : L2.St → Hp → Prop), Loc K H0 σ H δ S → DVs K (hid H S) vs ds → g ds δ = some δ' → (∀ σ', Loc K H0 σ' H δ' S → Q σ' H) → t vs σ H Q
def DGs (X : Cx) (tg : List Expr) (g : List PyData → List Sl → Option (List Sl)) : Prop := ∃ t, PGs X tg t ∧ RdGs X.K t g
def tsNil (ds : List PyData) (δ : List Sl) : Option (List Sl) := match ds with | [] => some δ | _ => none
def tsCons (g : PyData → List Sl → Option (List Sl)) (h : List PyData → List Sl → Option (List Sl)) (ds : List PyData) (δ : List Sl) : Option (List Sl) :=
  match ds with
  | d :: r => (match g d δ with | some δ' => h r δ' | none => none)
  | [] => none
theorem dgs_nil : DGs X [] tsNil := ⟨_, pgs_nil, fun H0 σ H δ δ' S vs ds Q L dv h q => by
    unfold tsNil at h
    split at h
    · cases h; cases dv; exact ⟨rfl, q _ L⟩
    · cases h⟩
theorem dgs_cons {e : Expr} {es : List Expr} {g : PyData → List Sl → Option (List Sl)} {h : List PyData → List Sl → Option (List Sl)} (h1 : DG X e g) (h2 : DGs X es h)
    (hs : (assignEach (e :: es) X.env).map (·.2) = assign e X.env :: (assignEach es X.env).map (·.2) := by rfl) : DGs X (e :: es) (tsCons g h) := by
  obtain ⟨t, a, b⟩ := h1
  obtain ⟨u, c, d⟩ := h2
  refine ⟨_, pgs_cons a c hs, fun H0 σ H δ δ' S vs ds Q L dv h q => ?_⟩
  unfold tsCons at h
  split at h
  · split at h
    · rename_i δ1 e1
      cases dv with
      | cons x y => exact ⟨_, _, rfl, b H0 σ H δ δ1 S _ _ _ L x e1 fun σ1 L1 => d H0 σ1 H δ1 δ' S _ _ _ L1 y h q⟩
    · cases h
  · cases h
def tTupT (g : List PyData → List Sl → Option (List Sl)) (k : Nat) (d : PyData) (δ : List Sl) : Option (List Sl) :=
  match d with
  | .tuple ds => if ds.length = k then g ds δ else none
  | _ => none
theorem dg_tup {es : List Expr} {kk : Nat} {g : List PyData → List Sl → Option (List Sl)} {k n : Nat} {pos : Pos} (Z : Fit n X E) (h : DGs X es g) (hn : (assignEach es X.env).length = k := by rfl) (hst : (assignEach es X.env).findIdx? (·.1) = none := by rfl) : DG X (.Tuple es kk pos) (tTupT g k) := by
  obtain ⟨t, a, b⟩ := h
  refine ⟨_, pg_tup Z.cm a hn hst, fun H0 σ H δ δ' S v d Q L dv h q => ?_⟩
  unfold tTupT at h
  split at h
  · rename_i ds
    split at h
    · rename_i hl
      cases dv with
      | tup hs hx => exact ⟨_, _, rfl, SameT hid_up hs, by rw [DVs.len hx]; exact hl, b H0 σ H δ δ' S _ _ _ L hx h q⟩
    · cases h
  · cases h
/-- a, b = x, y -/
def fPar (i j : Nat) (fa : List Sl → M (List Rz)) (δ : List Sl) : Option Fl := bS (fa δ) fun zs => match zs with | [x, y] => (match datOf x, datOf y with | some d, some e => some (.next ((δ.set i (.dat d)).set j (.dat e))) | _, _ => none) | _ => none
theorem ds_par (i j : Nat) {n : Nat} {x y : Str} {a b : Expr} {fa : List Sl → M (List Rz)} {px py pt : Pos} {kt k2 pt2} {pos : Pos} (Z : Fit n X E) (ha : DA X E [a, b] fa)
    (hp : ∀ t, PA X [a, b] t → PS X (.Assign [.Tuple [.Name x px, .Name y py] kt pt] (.Tuple [a, b] k2 pt2) pos) (tPar i j t)) : DS X E (.Assign [.Tuple [.Name x px, .Name y py] kt pt] (.Tuple [a, b] k2 pt2) pos) (fPar i j fa) := by
  obtain ⟨t, a1, b1⟩ := ha
  refine ⟨_, hp t a1, fun H0 σ H δ S D fl L h q => ?_⟩
  rcases bS_inv h with ⟨zs, h1, h⟩ | ⟨C, h1, rfl⟩
  · refine b1 H0 σ H δ S _ _ L h1 fun vs H1 S1 g1 rs => ?_
    split at h
    · rename_i zx zy
      split at h
      · rename_i d e e1 e2
        cases h
        obtain ⟨v, w, rfl, r1, r2⟩ := rvs2 rs
        have L1 := L.ext g1
        have L2 := L1.put (i := i) (o := some v) (s := .dat d) (fun _ z => nomatch z) (fun d' e => by cases e; exact ⟨v, rfl, datOf_ok L1 r1 e1⟩) (fun _ z => nomatch z)
        have L3 := L2.put (i := j) (o := some w) (s := .dat e) (fun _ z => nomatch z) (fun d' e => by cases e; exact ⟨w, rfl, datOf_ok L1 r2 e2⟩) (fun _ z => nomatch z)
        exact ⟨v, w, rfl, q _ H1 S1 L3⟩
      · cases h
    · cases h
  · exact b1 H0 σ H δ S _ _ L h1 (exc_ext L q)
/-! ### return, raise, an expression alone -/
def outOf (x : Rz) : Option Out :=
  match x with
  | .dat d => some (.val d)
  | .use d => some (.val d)
  | .new ds => if noLs ds = true then some (.fresh ds) else some (.lsts ds)
  | .var ds => if noLs ds = true then some (.fresh ds) else some (.lsts ds)
  | .exc _ => none
def fRet (f : List Sl → M Rz) (δ : List Sl) : Option Fl := bS (f δ) fun x => match outOf x with | some o => some (.ret o) | none => none
theorem ds_ret {e : Expr} {f : List Sl → M Rz} {pos : Pos} (he : DE X E e f) : DS X E (.Return (some e) pos) (fRet f) := by
  obtain ⟨t, a, b⟩ := he
  refine ⟨_, ps_ret a, fun H0 σ H δ S D fl L h q => ?_⟩
  rcases bS_inv h with ⟨x, h1, h⟩ | ⟨C, h1, rfl⟩
  · refine b H0 σ H δ S _ _ L h1 fun v H1 S1 g1 rv => ?_
    have L1 := L.ext g1
    split at h
    · rename_i o e1
      cases h
      unfold outOf at e1
      split at e1
      · cases e1; exact q v H1 L1.old (DV.same hid_up rv)
      · cases e1; exact q v H1 L1.old rv
      · split at e1
        · rename_i k
          cases e1
          obtain ⟨a, xs, rfl, z, n, ha, hx⟩ := rv
          exact q a xs H1 L1.old (L1.frs a z) ha (DVs.same hid_up hx) k
        · cases e1
          obtain ⟨a, xs, rfl, z, n, ha, hx⟩ := rv
          exact q a xs H1 L1.old (L1.frs a z) ha (DVs.same (wo_hid z) hx)
      · split at e1
        · rename_i k
          cases e1
          obtain ⟨a, xs, rfl, z, ha, hx⟩ := rv
          exact q a xs H1 L1.old (L1.frs a z) ha (DVs.same hid_up hx) k
        · cases e1
          obtain ⟨a, xs, rfl, z, ha, hx⟩ := rv
          exact q a xs H1 L1.old (L1.frs a z) ha (DVs.same (wo_hid z) hx)
      · cases e1
    · cases h
  · exact b H0 σ H δ S _ _ L h1 (exc_ext L q)
def fDrop (f : List Sl → M Rz) (δ : List Sl) : Option Fl := bS (f δ) fun _ => some (.next δ)
theorem ds_expr {e : Expr} {f : List Sl → M Rz} {pos : Pos} (he : DE X E e f) (hs : swapsWith e none pos.line X.env = pure false := by rfl) : DS X E (.Expr e pos) (fDrop f) := by
  obtain ⟨t, a, b⟩ := he
  refine ⟨_, ps_expr a hs, fun H0 σ H δ S D fl L h q => ?_⟩
  rcases bS_inv h with ⟨x, h1, h⟩ | ⟨C, h1, rfl⟩
  · cases h
    exact b H0 σ H δ S _ _ L h1 fun v H1 S1 g1 rv => q σ H1 S1 (L.ext g1)
  · exact b H0 σ H δ S _ _ L h1 (exc_ext L q)
def fRaise (C : Ex) (fa : List Sl → M (List Rz)) (δ : List Sl) : Option Fl := bS (fa δ) fun zs => if zs.length ≤ sizeLine then some (.exc C) else none
theorem RVs.len {Hs H : Hp} {S : Addr → Bool} : ∀ {vs : List V} {zs : List Rz}, RVs K Hs H S vs zs → vs.length = zs.length
  | _, _, .nil => rfl
  | _, _, .cons _ t => by rw [List.length_cons, List.length_cons, RVs.len t]
theorem ds_raise (C : Ex) {n : Nat} {x : Str} {e : Expr} {es : List Expr} {fa : List Sl → M (List Rz)} {np cpos pos : Pos} (Z : Fit n X E) (hm : X.mg x = some (.ref (ecx C)))
    (q : PySem.W.excIn X.K (ecx C) [.type "ValueError", .type "Exception", .type "BaseException", .type "object"] "ValueError.__new__" = true) (ha : DA X E (e :: es) fa)
    (hg : Gl X x := by rfl) (hdb : (x == ("__debug__" : Str)) = false := by decide)
    (he : starEach (e :: es) X.env = (false, eval e X.env) :: starEach es X.env := by rfl) (hpl : (backTo cpos (starEach es X.env)).any (·.1) = false := by rfl) :
    DS X E (.Raise (some (.Call (.Name x np) (e :: es) [] cpos)) none pos) (fRaise C fa) := by
  obtain ⟨t, a, b⟩ := ha
  refine ⟨_, ps_raise Z.ra Z.cm hm q a hg hdb he hpl, fun H0 σ H δ S D fl L h q => ?_⟩
  rcases bS_inv h with ⟨zs, h1, h⟩ | ⟨C', h1, rfl⟩
  · refine b H0 σ H δ S _ _ L h1 fun vs H1 S1 g1 rs => ?_
    split at h
    · rename_i hl
      cases h
      exact ⟨by rw [RVs.len rs]; exact hl, q H1 (L.old.trans g1.up)⟩
    · cases h
  · exact b H0 σ H δ S _ _ L h1 (exc_ext L q)
def fIfS (c : List Sl → M Bool) (f g : List Sl → Option Fl) (δ : List Sl) : Option Fl := bS (c δ) fun b => if b = true then f δ else g δ
theorem ds_if {c : Expr} {a b : List Stmt} {fc : List Sl → M Bool} {f g : List Sl → Option Fl} {pos : Pos} (hc : DT X E c fc) (ha : DSs X E a f) (hb : DSs X E b g) : DS X E (.If c a b pos) (fIfS fc f g) := by
  obtain ⟨tc, c1, c2⟩ := hc
  obtain ⟨t, a1, a2⟩ := ha
  obtain ⟨u, b1, b2⟩ := hb
  refine ⟨_, ps_if c1 a1 b1, fun H0 σ H δ S D fl L h q => ?_⟩
  rcases bS_inv h with ⟨k, h1, h⟩ | ⟨C, h1, rfl⟩
  · refine c2 H0 σ H δ S _ _ L h1 fun H1 S1 g1 => ?_
    cases k with
    | true => exact iteT (a2 H0 σ H1 δ S1 D fl (L.ext g1) h q)
    | false => exact iteF (b2 H0 σ H1 δ S1 D fl (L.ext g1) h q)
  · exact c2 H0 σ H δ S _ _ L h1 (exc_ext L q)
/-! ### while -/
def whN (c : List Sl → M Bool) (b : List Sl → Option Fl) : Nat → List Sl → Option Fl
  | 0, _ => none
  | n + 1, δ => bS (c δ) fun k => if k = true then (match b δ with | some (.next δ') => whN c b n δ' | some (.cnt δ') => whN c b n δ' | some (.brk δ') => some (.next δ') | r => r) else some (.next δ)
theorem whN_mono {c : List Sl → M Bool} {b : List Sl → Option Fl} {r : Fl} : ∀ {n m : Nat} {δ : List Sl}, n ≤ m → whN c b n δ = some r → whN c b m δ = some r
  | 0, _, _, _, h => nomatch h
  | n + 1, 0, _, l, _ => absurd l (by omega)
  | n + 1, m + 1, δ, l, h => by
    unfold whN at h ⊢
    rcases bS_inv h with ⟨k, h1, h⟩ | ⟨C, h1, rfl⟩
    · rw [h1]
      show (if k = true then _ else _) = _
      cases k with
      | false => exact h
      | true =>
        rw [if_pos rfl] at h ⊢
        split at h
        · exact whN_mono (by omega) h
        · exact whN_mono (by omega) h
        · exact h
        · exact h
    · rw [h1]; rfl
open Classical in
noncomputable def fWh (c : List Sl → M Bool) (b : List Sl → Option Fl) (δ : List Sl) : Option Fl := if h : ∃ n r, whN c b n δ = some r then whN c b (Classical.choose h) δ else none
theorem fWh_of {c : List Sl → M Bool} {b : List Sl → Option Fl} {n : Nat} {δ : List Sl} {r : Fl} (h : whN c b n δ = some r) : fWh c b δ = some r := by
  unfold fWh
  have hx : ∃ n r, whN c b n δ = some r := ⟨n, r, h⟩
  rw [dif_pos hx]
  obtain ⟨r', h'⟩ := Classical.choose_spec hx
  have e1 := whN_mono (Nat.le_max_left n (Classical.choose hx)) h
  have e2 := whN_mono (Nat.le_max_right n (Classical.choose hx)) h'
  rw [e1] at e2; cases e2
  exact h'
theorem fWh_inv {c : List Sl → M Bool} {b : List Sl → Option Fl} {δ : List Sl} {r : Fl} (h : fWh c b δ = some r) : ∃ n, whN c b n δ = some r := by
  unfold fWh at h
  split at h
  · exact ⟨_, h⟩
  · cases h
theorem ds_while {n : Nat} {c : Expr} {body : List Stmt} {fc : List Sl → M Bool} {fb : List Sl → Option Fl} {pos : Pos} (Z : Fit n X E) (hc : DT X E c fc) (hb : DSs X E body fb) : DS X E (.While c body [] pos) (fWh fc fb) := by
  obtain ⟨tc, c1, c2⟩ := hc
  obtain ⟨t, b1, b2⟩ := hb
  refine ⟨_, ps_while Z.po c1 b1, fun H0 σ H δ S D fl L h q => ?_⟩
  obtain ⟨m, hm⟩ := fWh_inv h
  refine ⟨fun m σ H => ∃ δ S, Loc X.K H0 σ H δ S ∧ whN fc fb m δ = some fl, ⟨m, δ, S, L, hm⟩, ?_⟩
  rintro m σ H ⟨δ, S, L, hm⟩
  cases m with
  | zero => exact nomatch hm
  | succ m =>
    unfold whN at hm
    rcases bS_inv hm with ⟨k, h1, h⟩ | ⟨C, h1, rfl⟩
    · refine c2 H0 σ H δ S _ _ L h1 fun H1 S1 g1 => ?_
      have L1 := L.ext g1
      cases k with
      | false =>
        cases h
        exact iteF (q σ H1 S1 L1)
      | true =>
        rw [if_pos rfl] at h ⊢
        refine ⟨fun σ' H' => ∃ δ' S', Loc X.K H0 σ' H' δ' S' ∧ whN fc fb m δ' = some fl, fun σ' H' z => ⟨m, Nat.lt_succ_self m, z⟩, ?_⟩
        split at h
        · rename_i δ' e
          exact b2 H0 σ H1 δ S1 _ _ L1 e fun σ' H' S' L' => ⟨δ', S', L', h⟩
        · rename_i δ' e
          exact b2 H0 σ H1 δ S1 _ _ L1 e fun σ' H' S' L' => ⟨δ', S', L', h⟩
        · rename_i δ' e
          cases h
          exact b2 H0 σ H1 δ S1 _ _ L1 e fun σ' H' S' L' => q σ' H' S' L'
        · rename_i r e1 e2 e3
          refine b2 H0 σ H1 δ S1 _ fl L1 h ?_
          cases fl with
          | next δ' => exact absurd h (e1 δ')
          | cnt δ' => exact absurd h (e2 δ')
          | brk δ' => exact absurd h (e3 δ')
          | ret o => exact q
          | exc C => exact q
    · exact c2 H0 σ H δ S _ _ L h1 (exc_ext L q)
end
end D3

set_option Elab.async false
set_option linter.all false
set_option maxRecDepth 100000
set_option maxHeartbeats 4000000
namespace D3
open PySem PySem.Spec PyProof.Rows L2 L3
variable [Ecx]
section
variable {X : Cx} {E : XK} {K : PySem.W.Frag}
/-! ### subscripts, unary minus -/
theorem de_ix {a b : Expr} {fa fb : List Sl → M Rz} {pos : Pos} (ha : DE X E a fa) (hb : DE X E b fb) (hs : PlainIx b := by exact (fun _ _ => rfl)) : DE X E (.Subscript a b pos) (f2 gIx fa fb) :=
  let ⟨_, a1, a2⟩ := ha; let ⟨_, b1, b2⟩ := hb; ⟨_, pe_ix ix_seq a1 b1 hs, rd2 od_ix a2 b2⟩
def negOf (x : Rz) : M Rz :=
  match x.d? with
  | some (.int i) => okM (.dat (.int (-i)))
  | _ => none
def fU (g : Rz → M Rz) (f : List Sl → M Rz) (δ : List Sl) : M Rz := bnd (f δ) g
theorem de_neg {a : Expr} {fa : List Sl → M Rz} {pos : Pos} (ha : DE X E a fa) : DE X E (.UnaryOp .USub a pos) (fU negOf fa) := by
  obtain ⟨t, a1, a2⟩ := ha
  refine ⟨_, pe_un un_neg a1, fun H0 σ H δ S Q z L h q => ?_⟩
  rcases bnd_inv h with ⟨x, h1, h⟩ | ⟨C, h1, rfl⟩
  · refine a2 H0 σ H δ S _ _ L h1 fun v H1 S1 g1 rv => ?_
    unfold negOf at h
    split at h
    · rename_i i e
      cases h
      have d := rv.full e
      cases d
      exact ⟨i, rfl, q _ H1 S1 g1 (.int _)⟩
    · cases h
  · exact a2 H0 σ H δ S _ _ L h1 q
/-! ### slices -/
def cutD (ds : List PyData) (lo hi : Option Int) : List PyData := (ds.drop (HT.sIx ds.length 0 lo)).take (HT.sIx ds.length ds.length hi - HT.sIx ds.length 0 lo)
theorem DVs.cut {H : Hp} {xs : List V} {ds : List PyData} (lo hi : Option Int) (h : DVs K H xs ds) : DVs K H (cutV xs lo hi) (cutD ds lo hi) := by
  unfold cutV cutD
  rw [DVs.len h]
  exact DVs.take _ (DVs.drop _ h)
def RdO (K : PySem.W.Frag) (E : XK) (t : TO) (f : List Sl → M (Option Int)) : Prop :=
  ∀ (H0 : Hp) (σ : L2.St) (H : Hp) (δ : List Sl) (S : Addr → Bool) (Q : Option Int → Hp → Prop) (r : Res (Option Int)), Loc K H0 σ H δ S → f δ = some r →
    (match r with | .ok z => ∀ H' S', Ext H S H' S' → Q z H' | .err C => ∀ H' S', Ext H S H' S' → E (.ref (ecx C)) none H') → t σ H Q
def DO (X : Cx) (E : XK) (e : Option Expr) (f : List Sl → M (Option Int)) : Prop := ∃ t, PO X e t ∧ RdO X.K E t f
def fNoP (_ : List Sl) : M (Option Int) := okM none
def partOf (x : Rz) : M (Option Int) :=
  match x.d? with
  | some (.int i) => okM (some i)
  | _ => none
def fPart (f : List Sl → M Rz) (δ : List Sl) : M (Option Int) := bnd (f δ) partOf
theorem do_none : DO X E none fNoP := ⟨_, po_none, fun H0 σ H δ S Q r L h q => by cases h; exact q H S .refl⟩
theorem do_some {e : Expr} {f : List Sl → M Rz} (h : DE X E e f) : DO X E (some e) (fPart f) := by
  obtain ⟨t, a, b⟩ := h
  refine ⟨_, po_some a, fun H0 σ H δ S Q r L h q => ?_⟩
  rcases bnd_inv h with ⟨x, h1, h⟩ | ⟨C, h1, rfl⟩
  · refine b H0 σ H δ S _ _ L h1 fun v H1 S1 g1 rv => ?_
    unfold partOf at h
    split at h
    · rename_i i e
      cases h
      have d := rv.full e
      cases d
      exact ⟨i, rfl, q H1 S1 g1⟩
    · cases h
  · exact b H0 σ H δ S _ _ L h1 q
def SlD (K : PySem.W.Frag) (E : XK) (r : V → Option Int → Option Int → Hp → VK → Prop) (g : Rz → Option Int → Option Int → M Rz) : Prop :=
  ∀ (H0 : Hp) (σ : L2.St) (H : Hp) (δ : List Sl) (S : Addr → Bool) (Hs : Hp) (v : V) (x : Rz) (lo hi : Option Int) (z : Res Rz) (Q : VK), Loc K H0 σ H δ S → RV K Hs H S v x → g x lo hi = some z → EndE K E H S Q z → r v lo hi H Q
def fSl (g : Rz → Option Int → Option Int → M Rz) (f : List Sl → M Rz) (fl fh : List Sl → M (Option Int)) (δ : List Sl) : M Rz := bnd (f δ) fun x => bnd (fl δ) fun lo => bnd (fh δ) fun hi => g x lo hi
theorem de_slice {e : Expr} {lo hi : Option Expr} {p2 pos : Pos} {r : V → Option Int → Option Int → Hp → VK → Prop} {g : Rz → Option Int → Option Int → M Rz} {f : List Sl → M Rz} {fl fh : List Sl → M (Option Int)} (hr : SlR X r) (hd : SlD X.K E r g) (he : DE X E e f) (hl : DO X E lo fl) (hh : DO X E hi fh) :
    DE X E (.Subscript e (.Slice lo hi none p2) pos) (fSl g f fl fh) := by
  obtain ⟨t, a1, a2⟩ := he
  obtain ⟨u, b1, b2⟩ := hl
  obtain ⟨w, c1, c2⟩ := hh
  refine ⟨_, pe_slice hr a1 b1 c1, fun H0 σ H δ S Q z L h q => ?_⟩
  rcases bnd_inv h with ⟨x, h1, h⟩ | ⟨C, h1, rfl⟩
  · refine a2 H0 σ H δ S _ _ L h1 fun v H1 S1 g1 rv => ?_
    rcases bnd_inv h with ⟨l, h2, h⟩ | ⟨C, h2, rfl⟩
    · refine b2 H0 σ H1 δ S1 _ _ (L.ext g1) h2 fun H2 S2 g2 => ?_
      rcases bnd_inv h with ⟨k, h3, h⟩ | ⟨C, h3, rfl⟩
      · refine c2 H0 σ H2 δ S2 _ _ ((L.ext g1).ext g2) h3 fun H3 S3 g3 => ?_
        exact hd H0 σ H3 δ S3 H v x l k z Q (((L.ext g1).ext g2).ext g3) ((rv.ext g2).ext g3) h (q.ext ((g1.trans g2).trans g3))
      · exact c2 H0 σ H2 δ S2 _ _ ((L.ext g1).ext g2) h3 fun H' S' g => q H' S' ((g1.trans g2).trans g)
    · exact b2 H0 σ H1 δ S1 _ _ (L.ext g1) h2 fun H' S' g => q H' S' (g1.trans g)
  · exact a2 H0 σ H δ S _ _ L h1 q
def gSlL (x : Rz) (lo hi : Option Int) : M Rz :=
  match x.d? with
  | some (.list ds) => if kept x ds = true then okM (.new (cutD ds lo hi)) else none
  | _ => none
theorem sd_list : SlD K E (rSlL K) gSlL := by
  intro H0 σ H δ S Hs v x lo hi z Q L rv h q
  unfold gSlL at h
  split at h
  · rename_i ds e
    split at h
    · rename_i k
      cases h
      obtain ⟨a, xs, rfl, hs, hx, hk⟩ := seq_list L rv e
      exact ⟨a, xs, rfl, hs, fun p hp => q _ _ (ins S p) (Ext.ins hp) ⟨p, _, rfl, ins_same, hp, upd_same, by rw [hid_ins hp]; exact DVs.cut lo hi (hk k)⟩⟩
    · cases h
  · cases h
/-! ### own defs -/
def EndF (K : PySem.W.Frag) (E : XK) (H : Hp) (Q : VK) : Res Out → Prop
  | .ok o => RetOk K H Q o
  | .err C => ∀ H', Same H H' → E (.ref (ecx C)) none H'
def spD (K : PySem.W.Frag) (n : Nat) (f : List PyData → M Out) : Sp := fun vs H Q E => ∃ ds o, vs.length = n ∧ DVs K H vs ds ∧ f ds = some o ∧ EndF K E H Q o
def dsOf : List Rz → Option (List PyData)
  | [] => some []
  | x :: xs => match x.d?, dsOf xs with
    | some d, some ds => some (d :: ds)
    | _, _ => none
theorem dsOf_ok {Hs H : Hp} {S : Addr → Bool} : ∀ {vs : List V} {zs : List Rz} {ds : List PyData}, RVs K Hs H S vs zs → dsOf zs = some ds → DVs K H vs ds
  | _, _, _, .nil, h => by cases h; exact .nil
  | _, _, _, .cons r t, h => by
    unfold dsOf at h
    split at h
    · rename_i d ds e1 e2
      cases h
      exact .cons (r.full e1) (dsOf_ok t e2)
    · cases h
def outZ : Out → Rz
  | .val d => if noL d = true then .dat d else .use d
  | .fresh ds => .new ds
  | .mine d => .dat d
  | .two ds es => .dat (.tuple [.list ds, .list es])
  | .lsts ds => .use (.list ds)
  | .newls ds => .new ds
  | .tl d ds => .use (.tuple [d, .list ds])
def gF (n : Nat) (f : List PyData → M Out) (zs : List Rz) : M Rz :=
  match dsOf zs with
  | some ds => if ds.length = n then bnd (f ds) fun o => okM (outZ o) else none
  | none => none
theorem cd_fn {n : Nat} {f : List PyData → M Out} : CallD K E (fun vs H Q => spD K n f (vs ++ []) H Q E) (gF n f) := by
  intro H0 σ H δ S Hs vs zs z Q L rs h q
  unfold gF at h
  split at h
  · rename_i ds e
    split at h
    · rename_i hn
      have hx := dsOf_ok rs e
      rw [List.append_nil]
      rcases bnd_inv h with ⟨o, h1, h⟩ | ⟨C, h1, rfl⟩
      · cases h
        refine ⟨ds, _, by rw [DVs.len hx]; exact hn, hx, h1, ?_⟩
        cases o with
        | val d =>
          intro v H' g dv
          have gx : Ext H S H' S := Ext.same g
          refine q v H' S gx ?_
          unfold outZ
          dsimp only
          split
          · rename_i k; exact DV.ts (L.ext gx).tk dv k
          · exact dv
        | two xs' ys' =>
          intro c a b xs ys H' g n1 n2 n3 hc ha hb dx dy kx ky
          have gx : Ext H S H' S := Ext.same g
          have off : ∀ p, H p = none → S p = false := fun p hp => by
            cases sp : S p with
            | true => obtain ⟨zs, hz⟩ := L.lst p sp; rw [hp] at hz; cases hz
            | false => rfl
          exact q _ H' S gx (.tup (SqT.of (by rw [hid_f (off c n1)]; exact hc)) (.cons (.lst (SqL.of (by rw [hid_f (off a n2)]; exact ha)) (DVs.ts (L.ext gx).tk dx kx)) (.cons (.lst (SqL.of (by rw [hid_f (off b n3)]; exact hb)) (DVs.ts (L.ext gx).tk dy ky)) .nil)))
        | lsts es =>
          intro a xs H' g n ha hx
          exact q _ H' S (Ext.same g) (DV.lst (SqL.of ha) (DVs.same wo_up hx))
        | tl d es =>
          intro c a v xs H' g n1 n2 hc ha dv hx
          exact q _ H' S (Ext.same g) (DV.tup (SqT.of hc) (.cons (DV.same wo_up dv) (.cons (.lst (SqL.of ha) (DVs.same wo_up hx)) .nil)))
        | newls es =>
          intro a xs H' g n ha hx
          have sub : Same (hid H S) (hid H' (ins S a)) := fun b o e => by
            have hb : b ≠ a := by intro z; subst z; have := hid_up _ _ e; rw [n] at this; cases this
            cases sb : S b with
            | true => rw [hid_t sb] at e; cases e
            | false => rw [hid_f sb] at e; rw [hid_f (by rw [ins_ne hb]; exact sb)]; exact g _ _ e
          have gx : Ext H S H' (ins S a) := ⟨g, sub, fun b hb => by
            unfold ins; split
            · rfl
            · exact hb, fun b hb => by
            by_cases c : b = a
            · subst c; exact .inr ⟨n, xs, ha⟩
            · rw [ins_ne c] at hb; exact .inl hb⟩
          refine q _ H' (ins S a) gx ⟨a, xs, rfl, ins_same, n, ha, DVs.same (fun b o e => ?_) hx⟩
          have hb : b ≠ a := by intro z; subst z; have := newL_up _ _ e; unfold wo at this; rw [if_pos rfl] at this; cases this
          cases sb : S b with
          | true =>
            obtain ⟨ys, hy⟩ := L.lst b sb
            unfold newL wo at e
            rw [hy] at e
            dsimp only at e
            rw [if_neg hb, g b _ hy] at e
            cases e
          | false => rw [hid_f (by rw [ins_ne hb]; exact sb)]; exact wo_up _ _ (newL_up _ _ e)
        | mine d =>
          intro v H' g dv
          refine q v H' S (Ext.same g) (DV.same (fun b o e => ?_) dv)
          cases sb : S b with
          | true =>
            obtain ⟨xs, hb⟩ := L.lst b sb
            unfold newL at e
            rw [hb] at e
            dsimp only at e
            rw [g b _ hb] at e
            cases e
          | false => rw [hid_f sb]; exact newL_up b o e
        | fresh es =>
          intro a xs H' g ha hl dv k
          have sub : Same (hid H S) (hid H' (ins S a)) := fun b o e => by
            have hb : b ≠ a := by intro z; subst z; have := hid_up _ _ e; rw [ha] at this; cases this
            cases sb : S b with
            | true => rw [hid_t sb] at e; cases e
            | false => rw [hid_f sb] at e; rw [hid_f (by rw [ins_ne hb]; exact sb)]; exact g _ _ e
          have gx : Ext H S H' (ins S a) := ⟨g, sub, fun b hb => by
            unfold ins; split
            · rfl
            · exact hb, fun b hb => by
            by_cases c : b = a
            · subst c; exact .inr ⟨ha, xs, hl⟩
            · rw [ins_ne c] at hb; exact .inl hb⟩
          exact q _ H' (ins S a) gx ⟨a, xs, rfl, ins_same, ha, hl, DVs.ts (L.ext gx).tk dv k⟩
      · refine ⟨ds, _, by rw [DVs.len hx]; exact hn, hx, h1, fun H' g => q H' S (Ext.same g)⟩
    · cases h
  · cases h
/-- f(e, ..) -/
theorem de_cal {k n m : Nat} {x : Str} {ps : List Str} {f : List PyData → M Out} {p pos : Pos} {e : Expr} {es : List Expr} {fa : List Sl → M (List Rz)} (Z : Fit n X E) (C : Cal X.prog X.w X.K X.mg X.base (CXR X.prog X.w) k x ps (spD X.K m f)) (ha : DA X E (e :: es) fa) (hn : k ≤ n := by decide)
    (hg : Gl X x := by rfl) (hdb : (x == ("__debug__" : Str)) = false := by decide)
    (he : starEach (e :: es) X.env = (false, eval e X.env) :: starEach es X.env := by rfl) (hpl : (backTo pos (starEach es X.env)).any (·.1) = false := by rfl) :
    DE X E (.Call (.Name x p) (e :: es) [] pos) (fCall (gF m f) fa) :=
  let ⟨_, a, b⟩ := ha; ⟨_, pe_calX C Z.rm Z.hx a hn hg hdb he hpl, rd_call cd_fn b⟩
/-! ### for -/
structure ItOk (K : PySem.W.Frag) (J : It) (Hh : Hp) (items : List PyData) : Prop where
  go : ∀ i H, Same Hh H → i < items.length → J.go i H
  yld : ∀ i H x H' d, Same Hh H → items[i]? = some d → J.yld i H x H' → H' = H ∧ DV K Hh x d
  stop : ∀ i H, Same Hh H → items.length ≤ i → J.stop i H
def RdI (K : PySem.W.Frag) (E : XK) (wi : TI) (f : List Sl → M (List PyData)) : Prop :=
  ∀ (H0 : Hp) (σ : L2.St) (H : Hp) (δ : List Sl) (S : Addr → Bool) (R : It → Hp → Prop) (r : Res (List PyData)), Loc K H0 σ H δ S → f δ = some r →
    (match r with | .ok items => ∀ J H' S', Ext H S H' S' → ItOk K J (hid H' S') items → R J H' | .err C => ∀ H' S', Ext H S H' S' → E (.ref (ecx C)) none H') → wi σ H R
def DI (X : Cx) (E : XK) (tg iter : Expr) (f : List Sl → M (List PyData)) : Prop := ∃ wi, PI X tg iter wi ∧ RdI X.K E wi f
theorem it_list {Hh : Hp} {a : Addr} {xs : List V} {ds : List PyData} (hs : SqL K Hh a xs) (hx : DVs K Hh xs ds) : ItOk K (Itl K a) Hh ds := by
  refine ⟨fun i H g hi => ?_, fun i H x H' d g e y => ?_, fun i H g hi => ⟨xs, g.seq hs, by rw [DVs.len hx]; exact hi⟩⟩
  · obtain ⟨v, e, _⟩ := DVs.get hx (List.getElem?_eq_getElem hi)
    exact ⟨xs, v, g.seq hs, e⟩
  · obtain ⟨rfl, y⟩ := y
    obtain ⟨v, e1, dv⟩ := DVs.get hx e
    have e2 := y xs (g.seq hs)
    rw [e1] at e2; cases e2
    exact ⟨rfl, dv⟩
/-- a list that is walked: a plain one, or a new one that is held by nothing else -/
def itemsL (x : Rz) : M (List PyData) :=
  match x with
  | .dat (.list ds) => okM ds
  | .new ds => okM ds
  | _ => none
def fI (g : Rz → M (List PyData)) (f : List Sl → M Rz) (δ : List Sl) : M (List PyData) := bnd (f δ) g
theorem Ext.del {H H1 : Hp} {S S1 : Addr → Bool} {a : Addr} (g : Ext H S H1 S1) (n : S a = false) : Ext H S H1 (del S1 a) :=
  ⟨g.up, g.hd.trans same_del, fun b h => by
    have : b ≠ a := by intro z; subst z; rw [h] at n; cases n
    rw [del_ne this]; exact g.sub b h, fun b h => by
    by_cases c : b = a
    · subst c; rw [del_same] at h; cases h
    · rw [del_ne c] at h; exact g.new b h⟩
theorem di_list {tg e : Expr} {f : List Sl → M Rz} (h : DE X E e f) : DI X E tg e (fI itemsL f) := by
  obtain ⟨t, a, b⟩ := h
  refine ⟨_, pi_list a, fun H0 σ H δ S R r L h q => ?_⟩
  rcases bnd_inv h with ⟨x, h1, h⟩ | ⟨C, h1, rfl⟩
  · refine b H0 σ H δ S _ _ L h1 fun v H1 S1 g1 rv => ?_
    unfold itemsL at h
    split at h
    · rename_i ds
      cases h
      have rv' : DV X.K (hid H1 S1) v (.list ds) := rv
      cases rv' with
      | lst hs hx => exact ⟨_, rfl, ⟨_, hid_up.seq hs⟩, q _ H1 S1 g1 (it_list hs hx)⟩
    · rename_i ds
      cases h
      obtain ⟨c, xs, rfl, z, n, hl, hx⟩ := rv
      have sc : S c = false := by
        cases e : S c with
        | false => rfl
        | true => obtain ⟨ys, w⟩ := L.lst c e; rw [n] at w; cases w
      exact ⟨c, rfl, ⟨xs, SqL.of hl⟩, q _ H1 (D3.del S1 c) (g1.del sc) (it_list (SqL.of (by rw [hid_f del_same]; exact hl)) (DVs.same same_del hx))⟩
    · cases h
  · exact b H0 σ H δ S _ _ L h1 q
def rangeL (lo : Int) (n : Nat) : List PyData := (List.range n).map fun (i : Nat) => PyData.int (lo + i)
theorem it_range {Hh : Hp} (lo : Int) (n : Nat) : ItOk K (Itr lo n) Hh (rangeL lo n) := by
  have hl : (rangeL lo n).length = n := by unfold rangeL; rw [List.length_map, List.length_range]
  refine ⟨fun i H g hi => by rw [hl] at hi; exact hi, fun i H x H' d g e y => ?_, fun i H g hi => by rw [hl] at hi; exact hi⟩
  obtain ⟨rfl, rfl⟩ := y
  unfold rangeL at e
  rw [List.getElem?_map] at e
  by_cases c : i < n
  · rw [List.getElem?_range c] at e; cases e; exact ⟨rfl, .int _⟩
  · rw [List.getElem?_eq_none (by rw [List.length_range]; omega)] at e; cases e
def rng1 (zs : List Rz) : M (List PyData) :=
  match dsOf zs with
  | some [.int j] => if -(2 ^ 62) ≤ j ∧ j < 2 ^ 62 then okM (rangeL 0 j.toNat) else none
  | _ => none
def rng2 (zs : List Rz) : M (List PyData) :=
  match dsOf zs with
  | some [.int i, .int j] => if -(2 ^ 62) ≤ i ∧ i < 2 ^ 62 ∧ -(2 ^ 62) ≤ j ∧ j < 2 ^ 62 then okM (rangeL i (j - i).toNat) else none
  | _ => none
def fR (g : List Rz → M (List PyData)) (f : List Sl → M (List Rz)) (δ : List Sl) : M (List PyData) := bnd (f δ) g
theorem di_range1 {tg a : Expr} {p pos : Pos} {f : List Sl → M (List Rz)} (hm : X.mg "range" = none) (ha : DA X E [a] f) (hg : Gl X "range" := by rfl) (hs : starEach [a] X.env = [(false, eval a X.env)] := by rfl) : DI X E tg (.Call (.Name "range" p) [a] [] pos) (fR rng1 f) := by
  obtain ⟨t, a1, b⟩ := ha
  refine ⟨_, pi_range1 hg hm a1 hs, fun H0 σ H δ S R r L h q => ?_⟩
  rcases bnd_inv h with ⟨zs, h1, h⟩ | ⟨C, h1, rfl⟩
  · refine b H0 σ H δ S _ _ L h1 fun vs H1 S1 g1 rs => ?_
    unfold rng1 at h
    split at h
    · rename_i j e
      split at h
      · rename_i hc
        cases h
        have hx := dsOf_ok rs e
        cases hx with
        | cons x y => cases x; cases y; exact ⟨j, rfl, hc.1, hc.2, q _ H1 S1 g1 (it_range 0 _)⟩
      · cases h
    · cases h
  · exact b H0 σ H δ S _ _ L h1 q
theorem di_range2 {tg a c : Expr} {p pos : Pos} {f : List Sl → M (List Rz)} (hm : X.mg "range" = none) (ha : DA X E [a, c] f) (hg : Gl X "range" := by rfl) (hs : starEach [a, c] X.env = [(false, eval a X.env), (false, eval c X.env)] := by rfl) (hs2 : starEach [c] X.env = [(false, eval c X.env)] := by rfl) : DI X E tg (.Call (.Name "range" p) [a, c] [] pos) (fR rng2 f) := by
  obtain ⟨t, a1, b⟩ := ha
  refine ⟨_, pi_range2 hg hm a1 hs hs2, fun H0 σ H δ S R r L h q => ?_⟩
  rcases bnd_inv h with ⟨zs, h1, h⟩ | ⟨C, h1, rfl⟩
  · refine b H0 σ H δ S _ _ L h1 fun vs H1 S1 g1 rs => ?_
    unfold rng2 at h
    split at h
    · rename_i i j e
      split at h
      · rename_i hc
        cases h
        have hx := dsOf_ok rs e
        cases hx with
        | cons x y =>
          cases x
          cases y with
          | cons x y => cases x; cases y; exact ⟨i, j, rfl, hc, q _ H1 S1 g1 (it_range i _)⟩
      · cases h
    · cases h
  · exact b H0 σ H δ S _ _ L h1 q
/-- the loop over known items -/
def forN (g : PyData → List Sl → Option (List Sl)) (b : List Sl → Option Fl) : List PyData → List Sl → Option Fl
  | [], δ => some (.next δ)
  | d :: r, δ => match g d δ with
    | none => none
    | some δ1 => (match b δ1 with
      | some (.next δ2) => forN g b r δ2
      | some (.cnt δ2) => forN g b r δ2
      | some (.brk δ2) => some (.next δ2)
      | x => x)
def fFor (fi : List Sl → M (List PyData)) (g : PyData → List Sl → Option (List Sl)) (b : List Sl → Option Fl) (δ : List Sl) : Option Fl := bS (fi δ) fun items => forN g b items δ
theorem ds_for {n : Nat} {tg iter : Expr} {body : List Stmt} {fi : List Sl → M (List PyData)} {g : PyData → List Sl → Option (List Sl)} {fb : List Sl → Option Fl} {pos : Pos} (Z : Fit n X E) (hi : DI X E tg iter fi) (hg : DG X tg g) (hb : DSs X E body fb)
    (hs : ∀ x, foldedSetIterable iter X.env x = pure x := by intro _; rfl) : DS X E (.For tg iter body [] pos) (fFor fi g fb) := by
  obtain ⟨wi, i1, i2⟩ := hi
  obtain ⟨tg', g1, g2⟩ := hg
  obtain ⟨tb, b1, b2⟩ := hb
  refine ⟨_, ps_for Z.po Z.cm i1 g1 b1 hs, fun H0 σ H δ S D fl L h q => ?_⟩
  rcases bS_inv h with ⟨items, h1, h⟩ | ⟨C, h1, rfl⟩
  · refine i2 H0 σ H δ S _ _ L h1 fun J H1 S1 e1 it => ?_
    have L1 := (L.ext e1).ground
    have base : Same H0 (hid H1 S1) := (L.ext e1).base
    refine ⟨fun i m σ H => m = items.length - i ∧ i ≤ items.length ∧ ∃ δ S, Loc X.K (hid H1 S1) σ H δ S ∧ forN g fb (items.drop i) δ = some fl, ⟨items.length, by simp, Nat.zero_le _, δ, S1, L1, h⟩, ?_⟩
    rintro i m σ2 H2 ⟨rfl, hi, δ2, S2, L2, hf⟩
    by_cases hlt : i < items.length
    · have ei : items[i]? = some items[i] := List.getElem?_eq_getElem hlt
      rw [List.drop_eq_getElem_cons hlt] at hf
      unfold forN at hf
      refine .inr ⟨it.go i H2 L2.old hlt, fun σ' H' => ∃ δ' S', Loc X.K (hid H1 S1) σ' H' δ' S' ∧ forN g fb (items.drop (i + 1)) δ' = some fl, fun σ' H' z => ⟨items.length - (i + 1), by omega, rfl, hlt, z⟩, fun x H' y => ?_⟩
      obtain ⟨rfl, dx⟩ := it.yld i H2 x H' _ L2.old ei y
      split at hf
      · cases hf
      · rename_i δ3 e3
        refine g2 _ σ2 H' δ2 δ3 S2 x _ _ L2 (DV.same L2.base dx) e3 fun σ3 L3 => ?_
        split at hf
        · rename_i δ4 e4
          exact b2 _ σ3 H' δ3 S2 _ _ L3 e4 fun σ' H' S' L' => ⟨δ4, S', L', hf⟩
        · rename_i δ4 e4
          exact b2 _ σ3 H' δ3 S2 _ _ L3 e4 fun σ' H' S' L' => ⟨δ4, S', L', hf⟩
        · rename_i δ4 e4
          cases hf
          refine b2 _ σ3 H' δ3 S2 _ _ L3 e4 fun σ' H' S' L' => ?_
          exact q σ' H' S' ⟨base.trans L'.old, fun b h => base.free (L'.frs b h), L'.lst, L'.len, L'.dat, L'.exc, L'.own, L'.one, L'.two, L'.sep, L'.sop⟩
        · rename_i r n1 n2 n3
          refine b2 _ σ3 H' δ3 S2 _ fl L3 hf ?_
          cases fl with
          | next δ' => exact absurd hf (n1 δ')
          | cnt δ' => exact absurd hf (n2 δ')
          | brk δ' => exact absurd hf (n3 δ')
          | ret o => exact RetOk.up base q
          | exc C => exact fun H' s => q H' (base.trans s)
    · have e : i = items.length := by omega
      subst e
      rw [List.drop_length] at hf
      cases hf
      exact .inl ⟨it.stop _ H2 L2.old (Nat.le_refl _), q σ2 H2 S2 ⟨base.trans L2.old, fun b h => base.free (L2.frs b h), L2.lst, L2.len, L2.dat, L2.exc, L2.own, L2.one, L2.two, L2.sep, L2.sop⟩⟩
  · exact i2 H0 σ H δ S _ _ L h1 (exc_ext L q)
end
end D3

set_option Elab.async false
set_option linter.all false
set_option maxRecDepth 100000
set_option maxHeartbeats 4000000
namespace D3
open PySem PySem.Spec PyProof.Rows L2 L3
variable [Ecx]
section
variable {X : Cx} {E : XK} {K : PySem.W.Frag}
/-! ### a list of one's own that is changed no more from here on -/
def fFrz (i : Nat) (f : List Sl → Option Fl) (δ : List Sl) : Option Fl :=
  match δ[i]? with
  | some (.own ds) => f (δ.set i (.dat (.list ds)))
  | _ => f δ
theorem ds_frz (i : Nat) {st : Stmt} {f : List Sl → Option Fl} (h : DS X E st f) : DS X E st (fFrz i f) := by
  obtain ⟨t, a, b⟩ := h
  refine ⟨t, a, fun H0 σ H δ S D fl L h q => ?_⟩
  unfold fFrz at h
  split at h
  · rename_i ds e
    obtain ⟨S', L'⟩ := L.freeze e
    exact b H0 σ H _ S' D fl L' h q
  · exact b H0 σ H δ S D fl L h q
/-! ### changes of a list of one's own -/
def fMut (k : Nat) (g : List PyData → Option Fl) (δ : List Sl) : Option Fl :=
  match δ[k]? with
  | some (.own ds) => g ds
  | _ => none
theorem fMut_inv {k : Nat} {g : List PyData → Option Fl} {δ : List Sl} {r : Fl} (h : fMut k g δ = some r) : ∃ ds, δ[k]? = some (.own ds) ∧ g ds = some r := by
  unfold fMut at h
  split at h
  · rename_i ds e; exact ⟨ds, e, h⟩
  · cases h
def fApp (k : Nat) (f : List Sl → M Rz) (δ : List Sl) : Option Fl := fMut k (fun ds => bS (f δ) fun x => match datOf x with
  | some d => if ds.length < sizeLine then some (.next (δ.set k (.own (ds ++ [d])))) else none
  | none => none) δ
theorem ds_append (k : Nat) {x : Str} {e : Expr} {f : List Sl → M Rz} {npos apos cpos pos : Pos} (he : DE X E e f) (hN : X.N[k]? = some x := by rfl) (hv : Vis X.env.scope x := by first | exact Or.inl rfl | exact Or.inr (Or.inl rfl) | exact Or.inr (Or.inr rfl)) (hd : (x == ("__debug__" : Str)) = false := by decide) (hcd : (x == ("__classdict__" : Str)) = false := by decide)
    (hs : swapsWith (.Call (.Attribute (.Name x npos) "append" apos) [e] [] cpos) none pos.line X.env = pure false := by rfl)
    (hbase : attributeBase (.Name x npos) "append" X.env (eval (.Name x npos) X.env) = eval (.Name x npos) X.env := by rfl)
    (hfew : ((backTo cpos (starEach [e] X.env)).all (fun x => !x.1) && (backToKw cpos (keywordEach [] X.env)).all (fun x => x.1.isSome)
      && decide ([e].length + ([] : List Keyword).length + (if ([] : List Keyword).isEmpty then 0 else 1) < 30)) = true := by rfl)
    (hline : (apos.endLine == cpos.line) = true := by rfl) (hst : starEach [e] X.env = (false, eval e X.env) :: starEach [] X.env := by rfl) (hplain : (backTo cpos (starEach [] X.env)).any (·.1) = false := by rfl) :
    DS X E (.Expr (.Call (.Attribute (.Name x npos) "append" apos) [e] [] cpos) pos) (fApp k f) := by
  obtain ⟨t, a, b⟩ := he
  refine ⟨_, ps_expr (pe_bm PySem.F.plainAttrs_list PySem.F.slot_list_append PySem.F.type_list_append mt_append (pe_var hN hv hd hcd) (pa_cons a pa_nil hst) hbase hfew hline hst hplain) hs, fun H0 σ H δ S D fl L h q => ?_⟩
  obtain ⟨ds, e2, h⟩ := fMut_inv h
  obtain ⟨c, xs, c1, c2, c3, c4⟩ := L.own k ds e2
  refine ⟨_, c1, .inl ⟨rfl, xs, SqL.of c3⟩, ?_⟩
  rcases bS_inv h with ⟨z, h1, h⟩ | ⟨C, h1, rfl⟩
  · split at h
    · rename_i d e1
      split at h
      · rename_i hl
        cases h
        refine b H0 σ H δ S _ _ L h1 fun v H1 S1 g1 rv => ?_
        have L1 := L.ext g1
        obtain ⟨c', xs', d1, d2, d3, d4⟩ := L1.own k ds e2
        rw [c1] at d1; cases d1
        refine ⟨_, xs', v, rfl, rfl, d3, by rw [DVs.len d4]; exact hl, ?_⟩
        exact q _ _ S1 (L1.mut e2 c1 (DVs.append (.cons (datOf_ok L1 rv e1) .nil) d4))
      · cases h
    · cases h
  · exact b H0 σ H δ S _ _ L h1 (exc_ext L q)
def fPop (k : Nat) (δ : List Sl) : Option Fl := fMut k (fun ds => if ds = [] then none else some (.next (δ.set k (.own ds.dropLast)))) δ
theorem ds_pop (k : Nat) {x : Str} {npos apos cpos pos : Pos} (hN : X.N[k]? = some x := by rfl) (hv : Vis X.env.scope x := by first | exact Or.inl rfl | exact Or.inr (Or.inl rfl) | exact Or.inr (Or.inr rfl)) (hd : (x == ("__debug__" : Str)) = false := by decide) (hcd : (x == ("__classdict__" : Str)) = false := by decide)
    (hs : swapsWith (.Call (.Attribute (.Name x npos) "pop" apos) [] [] cpos) none pos.line X.env = pure false := by rfl)
    (hbase : attributeBase (.Name x npos) "pop" X.env (eval (.Name x npos) X.env) = eval (.Name x npos) X.env := by rfl) (hline : (apos.endLine == cpos.line) = true := by rfl) :
    DS X E (.Expr (.Call (.Attribute (.Name x npos) "pop" apos) [] [] cpos) pos) (fPop k) := by
  refine ⟨_, ps_expr (pe_bm0 PySem.F.plainAttrs_list PySem.F.slot_list_pop PySem.F.type_list_pop mt_pop (pe_var hN hv hd hcd) hbase hline) hs, fun H0 σ H δ S D fl L h q => ?_⟩
  obtain ⟨ds, e2, h⟩ := fMut_inv h
  obtain ⟨c, xs, c1, c2, c3, c4⟩ := L.own k ds e2
  split at h
  · cases h
  · rename_i hne
    cases h
    have hl := DVs.len c4
    have hpos : 0 < xs.length := by rw [hl]; exact List.length_pos_iff.mpr hne
    refine ⟨_, c1, .inl ⟨rfl, xs, SqL.of c3⟩, c, xs, xs[xs.length - 1], rfl, rfl, c3, List.getElem?_eq_getElem _, ?_⟩
    exact q _ _ S (L.mut e2 c1 (DVs.dropLast c4))
/-- x[i] = e -/
def fPut (k : Nat) (f fi : List Sl → M Rz) (δ : List Sl) : Option Fl := bS (f δ) fun x => fMut k (fun ds => bS (fi δ) fun y => match datOf x, y.d? with
  | some d, some (.int i) => (match ixN ds.length i with | some j => some (.next (δ.set k (.own (ds.set j d)))) | none => none)
  | _, _ => none) δ
theorem ds_put (k : Nat) {x : Str} {e i : Expr} {f fi : List Sl → M Rz} {npos spos pos : Pos} (he : DE X E e f) (hi : DE X E i fi) (hN : X.N[k]? = some x := by rfl) (hv : Vis X.env.scope x := by first | exact Or.inl rfl | exact Or.inr (Or.inl rfl) | exact Or.inr (Or.inr rfl)) (hd : (x == ("__debug__" : Str)) = false := by decide) (hcd : (x == ("__classdict__" : Str)) = false := by decide)
    (ha : ∀ v, assign (.Subscript (.Name x npos) i spos) X.env v = (do
      let ov ← holding [v] (eval (.Name x npos) X.env)
      let iv ← holding [v, ov] (eval i X.env)
      standAt spos
      holding [v, ov, iv] (setItem ov iv v)
      release [v, ov, iv] []) := by intro _; rfl)
    (hs : swapsWithSole [.Subscript (.Name x npos) i spos] e pos.line X.env = pure false := by rfl) (hw : swappedStores [.Subscript (.Name x npos) i spos] e X.env = pure none := by rfl)
    (h1 : (assignEach [.Subscript (.Name x npos) i spos] X.env).map (·.2) = [assign (.Subscript (.Name x npos) i spos) X.env] := by rfl) :
    DS X E (.Assign [.Subscript (.Name x npos) i spos] e pos) (fPut k f fi) := by
  obtain ⟨t, a, b⟩ := he
  obtain ⟨u, c, dd⟩ := hi
  refine ⟨_, ps_asg a (pg_sub (pe_var hN hv hd hcd) c set_list ha) hs hw h1, fun H0 σ H δ S D fl L h q => ?_⟩
  rcases bS_inv h with ⟨z, h1, h⟩ | ⟨C, h1, rfl⟩
  · refine b H0 σ H δ S _ _ L h1 fun v H1 S1 g1 rv => ?_
    have L1 := L.ext g1
    obtain ⟨ds, e2, h⟩ := fMut_inv h
    obtain ⟨c, xs, c1, c2, c3, c4⟩ := L1.own k ds e2
    refine ⟨_, c1, ?_⟩
    rcases bS_inv h with ⟨y, h2, h⟩ | ⟨C, h2, rfl⟩
    · refine dd H0 σ H1 δ S1 _ _ L1 h2 fun w H2 S2 g2 rw' => ?_
      have L2 := L1.ext g2
      split at h
      · rename_i d ii e3 e4
        split at h
        · rename_i j e5
          cases h
          have dw := rw'.full e4
          cases dw
          obtain ⟨c', xs', d1, d2, d3, d4⟩ := L2.own k ds e2
          rw [c1] at d1; cases d1
          refine ⟨_, xs', ii, j, rfl, rfl, d3, by rw [DVs.len d4]; exact e5, ?_⟩
          exact q _ _ S2 (L2.mut e2 c1 (DVs.set (datOf_ok L2 (rv.ext g2) e3) j d4))
        · cases h
      · cases h
    · exact dd H0 σ H1 δ S1 _ _ L1 h2 (exc_ext L1 q)
  · exact b H0 σ H δ S _ _ L h1 (exc_ext L q)
/-! ### isinstance -/
inductive Tg where
  | non | bl | int | str | lst | tup
  | exc (n : Ex)
  deriving DecidableEq
def tgD : PyData → Option Tg
  | .none => some .non
  | .bool _ => some .bl
  | .int _ => some .int
  | .str _ => some .str
  | .list _ => some .lst
  | .tuple _ => some .tup
  | .dict _ => none
def tgOf (x : Rz) : Option Tg :=
  match x with
  | .exc n => if isFn n = true then none else some (.exc n)
  | .dat d => tgD d
  | .use d => tgD d
  | .new _ => some .lst
  | .var _ => some .lst
def tgV : Tg → Value
  | .non => .type "NoneType"
  | .bl => .type "bool"
  | .int => .type "int"
  | .str => .type "str"
  | .lst => .type "list"
  | .tup => .type "tuple"
  | .exc n => .ref (ecx n)
theorem ty_data {H : Hp} {v : V} {d : PyData} {tg : Tg} (h : DV K H v d) (e : tgD d = some tg) : TyX K H v (tgV tg) := by
  cases h with
  | non => cases e; exact .non
  | bl b => cases e; exact .bl b
  | int i => cases e; exact .int i
  | str x => cases e; exact .str x
  | tup a b => cases e; exact .tup a
  | lst a b => cases e; exact .lst a
theorem ty_ok {Hs H : Hp} {S : Addr → Bool} {v : V} {x : Rz} {tg : Tg} (r : RV K Hs H S v x) (e : tgOf x = some tg) (xk : ∀ n, tg = .exc n → ExcK K (ecx n)) : TyE K H v (tgV tg) := by
  cases x with
  | exc n =>
    unfold tgOf at e
    dsimp only at e
    split at e
    · cases e
    · rename_i nf
      cases e
      obtain ⟨ea, rfl, z⟩ := r
      exact .exc (xk n rfl) (hid_up _ _ (z.real (by simpa using nf)))
  | dat d => exact .of (ty_data (DV.same hid_up r) e)
  | use d => exact .of (ty_data r e)
  | new ds => cases e; exact .of (ty_data (RV.full r rfl) rfl)
  | var ds => cases e; exact .of (ty_data (RV.full r rfl) rfl)
def gIsi (ans : Tg → Option Bool) (x : Rz) : M Rz :=
  match tgOf x with
  | some tg => (match ans tg with | some b => okM (.dat (.bool b)) | none => none)
  | none => none
theorem gIsi_inv {ans : Tg → Option Bool} {x : Rz} {z : Res Rz} (h : gIsi ans x = some z) : ∃ tg b, tgOf x = some tg ∧ ans tg = some b ∧ z = .ok (.dat (.bool b)) := by
  unfold gIsi at h
  split at h
  · rename_i tg e
    split at h
    · rename_i b e2; cases h; exact ⟨tg, b, e, e2, rfl⟩
    · cases h
  · cases h
/-- what isinstance says of a class, by what is asked of -/
structure IsK (K : PySem.W.Frag) (cv : V) (ans : Tg → Option Bool) : Prop where
  cls : isCls cv = true
  kit : ∀ tg b, ans tg = some b → PySem.W.kitOne K (tgV tg) (vOf cv) = some b
  exc : ∀ n b, ans (.exc n) = some b → ExcK K (ecx n)
structure IsKs (K : PySem.W.Frag) (cs : List V) (ans : Tg → Option Bool) : Prop where
  cls : ∀ c ∈ cs, isCls c = true
  kit : ∀ tg b, ans tg = some b → PySem.W.kitAny K (tgV tg) (cs.map vOf) = some b
  exc : ∀ n b, ans (.exc n) = some b → ExcK K (ecx n)
theorem de_isi {a c : Expr} {cv : V} {ans : Tg → Option Bool} {f : List Sl → M Rz} {p pos : Pos} (hm : X.mg "isinstance" = none) (hk : IsK X.K cv ans) (ha : DE X E a f) (hc : PE X c (tC cv))
    (hg : Gl X "isinstance" := by rfl) (hs : starEach [a, c] X.env = (false, eval a X.env) :: starEach [c] X.env := by rfl) (hs2 : starEach [c] X.env = (false, eval c X.env) :: starEach [] X.env := by rfl) (hpl : (backTo pos (starEach [c] X.env)).any (·.1) = false := by rfl) :
    DE X E (.Call (.Name "isinstance" p) [a, c] [] pos) (fU (gIsi ans) f) := by
  obtain ⟨t, a1, a2⟩ := ha
  refine ⟨_, pe_callB call_isE hg hm PyProof.Rows.boot_isinstance (pa_cons a1 (pa_cons hc pa_nil hs2) hs) (by decide) (by decide) hs hpl, fun H0 σ H δ S Q z L h q => ?_⟩
  rcases bnd_inv h with ⟨x, h1, h⟩ | ⟨C, h1, rfl⟩
  · refine a2 H0 σ H δ S _ _ L h1 fun v H1 S1 g1 rv => ?_
    obtain ⟨tg, b, e1, e2, rfl⟩ := gIsi_inv h
    exact ⟨v, cv, tgV tg, b, rfl, ty_ok rv e1 (fun n e => by subst e; exact hk.exc n b e2), hk.cls, hk.kit tg b e2, q _ H1 S1 g1 (.bl b)⟩
  · exact a2 H0 σ H δ S _ _ L h1 q
def tCs : List V → TA
  | [] => tNil
  | c :: cs => tCons (tC c) (tCs cs)
theorem tCs_ok {σ : L2.St} {H : Hp} : ∀ {cs : List V} {Q : List V → Hp → Prop}, Q cs H → tCs cs σ H Q
  | [], _, q => q
  | c :: cs, Q, q => tCs_ok (cs := cs) (Q := fun xs H2 => Q (c :: xs) H2) q
theorem de_isT {a : Expr} {ces : List Expr} {cs : List V} {ans : Tg → Option Bool} {f : List Sl → M Rz} {p tp pos : Pos} {x1} (hm : X.mg "isinstance" = none) (hk : IsKs X.K cs ans) (hl : cs.length ≤ sizeLine) (ha : DE X E a f) (hc : PA X ces (tCs cs))
    (hg : Gl X "isinstance" := by rfl) (hs : starEach [a, .Tuple ces x1 tp] X.env = (false, eval a X.env) :: starEach [.Tuple ces x1 tp] X.env := by rfl) (hs2 : starEach [.Tuple ces x1 tp] X.env = (false, eval (.Tuple ces x1 tp) X.env) :: starEach [] X.env := by rfl) (hpl : (backTo pos (starEach [.Tuple ces x1 tp] X.env)).any (·.1) = false := by rfl) :
    DE X E (.Call (.Name "isinstance" p) [a, .Tuple ces x1 tp] [] pos) (fU (gIsi ans) f) := by
  obtain ⟨t, a1, a2⟩ := ha
  refine ⟨_, pe_callB call_isT hg hm PyProof.Rows.boot_isinstance (pa_cons a1 (pa_cons (pe_tup hc) pa_nil hs2) hs) (by decide) (by decide) hs hpl, fun H0 σ H δ S Q z L h q => ?_⟩
  rcases bnd_inv h with ⟨x, h1, h⟩ | ⟨C, h1, rfl⟩
  · refine a2 H0 σ H δ S _ _ L h1 fun v H1 S1 g1 rv => ?_
    obtain ⟨tg, b, e1, e2, rfl⟩ := gIsi_inv h
    refine tCs_ok ⟨hl, fun p hp => ?_⟩
    have g2 : Ext H1 S1 (upd H1 p (.tup cs)) S1 := Ext.same (same_new hp _)
    exact ⟨v, p, cs, tgV tg, b, rfl, upd_same, ty_ok (rv.ext g2) e1 (fun n e => by subst e; exact hk.exc n b e2), hk.cls, hk.kit tg b e2, q _ _ S1 (g1.trans g2) (.bl b)⟩
  · exact a2 H0 σ H δ S _ _ L h1 q
/-! ### a def, by its body -/
def fnD (n m : Nat) (f : List Sl → Option Fl) (ds : List PyData) : M Out :=
  if ds.length = n then (match f (ds.map Sl.dat ++ List.replicate m Sl.no) with
    | some (.ret o) => some (.ok o)
    | some (.next _) => some (.ok (.val .none))
    | some (.exc C) => some (.err C)
    | _ => none) else none
theorem loc_start {H : Hp} {vs : List V} {ds : List PyData} {N : List Str} {m : Nat} (h : DVs K H vs ds) (hm : N.length - vs.length = m) : Loc K H (L2.start N vs) H (ds.map Sl.dat ++ List.replicate m Sl.no) (fun _ => false) := by
  have hh : hid H (fun _ => false) = H := by funext b; exact hid_f rfl
  have hl := DVs.len h
  have at_ : ∀ (i : Nat) (s : Sl), (ds.map Sl.dat ++ List.replicate m Sl.no)[i]? = some s → (∃ d, ds[i]? = some d ∧ s = .dat d) ∨ s = .no := fun i s e => by
    by_cases c : i < ds.length
    · rw [List.getElem?_append_left (by rw [List.length_map]; exact c), List.getElem?_map, List.getElem?_eq_getElem c] at e
      cases e
      exact .inl ⟨_, List.getElem?_eq_getElem c, rfl⟩
    · rw [List.getElem?_append_right (by rw [List.length_map]; omega), List.getElem?_replicate] at e
      split at e
      · cases e; exact .inr rfl
      · cases e
  refine ⟨Same.refl _, (fun b h => nomatch h), (fun b h => nomatch h), ?_, fun i d e => ?_, fun i C e => ?_, fun i es e => ?_, fun i j d1 d2 a e1 => ?_, fun i o e => ?_, fun i j ds' a kd => ?_, fun i j a kd => ?_⟩
  · unfold L2.start
    rw [List.length_append, List.length_append, List.length_map, List.length_map, List.length_replicate, List.length_replicate, hl, ← hm, hl]
  · rcases at_ i _ e with ⟨d', e1, e2⟩ | e2
    · cases e2
      obtain ⟨v, e3, dv⟩ := DVs.get h e1
      refine ⟨v, ?_, by rw [hh]; exact dv⟩
      unfold L2.start
      have : i < vs.length := (List.getElem?_eq_some_iff.mp e3).1
      rw [List.getElem?_append_left (by rw [List.length_map]; exact this), List.getElem?_map, e3]
      rfl
    · cases e2
  · rcases at_ i _ e with ⟨d', e1, e2⟩ | e2 <;> cases e2
  · rcases at_ i _ e with ⟨d', e1, e2⟩ | e2 <;> cases e2
  · rcases at_ i _ e1 with ⟨d', e1, e2⟩ | e2 <;> cases e2
  · rcases at_ i _ e with ⟨d', e1, e2⟩ | e2 <;> cases e2
  · obtain ⟨o, c, x, y, e, _⟩ := kd
    rcases at_ i _ e with ⟨d', e1, e2⟩ | e2 <;> cases e2
  · obtain ⟨o, c, x, y, e, _⟩ := kd
    rcases at_ i _ e with ⟨d', e1, e2⟩ | e2 <;> cases e2
end
theorem fn_ok {P : Program} {w : World} {K : PySem.W.Frag} {mg : Str → Option Value} {base : Heap} {x : Str} {st : Stmt} {f : Addr} {fd : FuncData} {N ps : List Str} {k : Nat} (n m : Nat) (body : List Sl → Option Fl) (F : Fun K x x st f fd) (S : FnScope N ps (defScope st)) (hn : ps.length = n) (hm : N.length - ps.length = m)
    (hb : ∀ (cdv : Value) (A : Around) (outer : List Env) (s : Shared) (H : Hp) (E : XK), Fit k (cxOf (CXR P w) P w K mg base N x (defScope st) f cdv A outer s H E) E → DSs (cxOf (CXR P w) P w K mg base N x (defScope st) f cdv A outer s H E) E (defBody st) body) :
    FnOk P w K mg base (CXR P w) (k + 1) f fd ps (spD K n (fnD n m body)) := by
  subst hn hm
  refine okX F S (fun vs H Q E h => ?_) (fun cdv A outer s H vs Q E hr h => ?_)
  · obtain ⟨_, _, h, _⟩ := h; exact h
  · obtain ⟨ds, o, hl, dv, e, q⟩ := h
    obtain ⟨t, a, b⟩ := hb cdv A outer s H E ⟨passes_def, raises_def, PassesOwn.leaving, rfl, hr, S.nd⟩
    refine ⟨t, a, ?_⟩
    unfold fnD at e
    have hl2 : ds.length = ps.length := by rw [← DVs.len dv]; exact hl
    rw [if_pos hl2] at e
    have L := loc_start (N := N) (m := N.length - ps.length) dv (by rw [hl])
    split at e
    · rename_i o' e1
      cases e
      exact b H _ H _ _ _ _ L e1 q
    · rename_i δ e1
      cases e
      exact b H _ H _ _ _ _ L e1 fun σ' H' S' L' => q .non H' L'.old .non
    · rename_i C e1
      cases e
      exact b H _ H _ _ _ _ L e1 q
    · cases e
end D3

set_option Elab.async false
set_option linter.all false
set_option maxRecDepth 100000
set_option maxHeartbeats 4000000
namespace D3
open PySem PySem.Spec PyProof.Rows L2 L3
variable [Ecx]
/-! ### the readings in one form -/
def tD (K : PySem.W.Frag) (E : XK) (f : List Sl → M Rz) : TE := fun σ H Q => ∃ H0 δ S r, Loc K H0 σ H δ S ∧ f δ = some r ∧ EndE K E H S Q r
theorem DE.pe {X : Cx} {E : XK} {e : Expr} {f : List Sl → M Rz} (h : DE X E e f) : PE X e (tD X.K E f) := by
  obtain ⟨t, a, b⟩ := h
  intro pins s σ H Q I q
  obtain ⟨H0, δ, S, r, L, e, q⟩ := q
  exact a pins s σ H Q I (b H0 σ H δ S Q r L e q)
def tDT (K : PySem.W.Frag) (E : XK) (f : List Sl → M Bool) : TT := fun σ H Q => ∃ H0 δ S r, Loc K H0 σ H δ S ∧ f δ = some r ∧ EndT E H S Q r
/-! ### the names of a comprehension -/
theorem closure_ex {env : Env} : ∀ (names : List (Str × NameKind)) (acc : List (Str × Addr)), (∀ p ∈ names, p.2 = .free → ∃ c, env.cells.lookup p.1 = some c) →
    ∃ cl : List (Str × Addr), (forIn names acc (fun (x : Str × NameKind) (r : List (Str × Addr)) => (match x with | (name, kind) => if (kind == NameKind.free) = true then (do let a ← cellOf env name; pure (ForInStep.yield ((name, a) :: r))) else pure (ForInStep.yield r)) : Str × NameKind → List (Str × Addr) → Sem (ForInStep (List (Str × Addr))))) = (pure cl : Sem (List (Str × Addr)))
      ∧ (∀ p ∈ cl, p ∈ acc ∨ env.cells.lookup p.1 = some p.2) ∧ (∀ p ∈ names, p.2 = .free → ∃ c, (p.1, c) ∈ cl) ∧ (∀ p ∈ acc, p ∈ cl)
  | [], acc, _ => ⟨acc, rfl, (fun p h => .inl h), (fun p h => nomatch h), (fun p h => h)⟩
  | (n, k) :: r, acc, h => by
    by_cases c : k = .free
    · subst c
      obtain ⟨a, ea⟩ := h (n, .free) (.head _) rfl
      obtain ⟨cl, e, h1, h2, h3⟩ := closure_ex r ((n, a) :: acc) fun p hp => h p (.tail _ hp)
      refine ⟨cl, ?_, fun p hp => ?_, fun p hp hf => ?_, fun p hp => h3 p (.tail _ hp)⟩
      · rw [List.forIn_cons]
        dsimp only
        rw [if_pos (by rfl)]
        unfold cellOf
        have ea' : env.cells.lookup n = some a := ea
        rw [ea']
        exact e
      · rcases h1 p hp with q | q
        · rcases List.mem_cons.mp q with q | q
          · subst q; exact .inr ea
          · exact .inl q
        · exact .inr q
      · rcases List.mem_cons.mp hp with q | q
        · subst q; exact ⟨a, h3 _ (.head _)⟩
        · exact h2 p q hf
    · obtain ⟨cl, e, h1, h2, h3⟩ := closure_ex r acc fun p hp => h p (.tail _ hp)
      refine ⟨cl, ?_, h1, fun p hp hf => ?_, h3⟩
      · rw [List.forIn_cons]
        dsimp only
        rw [if_neg (by intro z; exact c (beq_iff_eq.mp z))]
        exact e
      · rcases List.mem_cons.mp hp with q | q
        · subst q; exact absurd hf c
        · exact h2 p q hf
/-- what a look at the two name tables says -/
def compChk (N : List Str) (x : Str) (sc dsc : Scope) : Bool :=
  decide (sc.kind = .function) && decide (dsc.kind = .function) && sc.names.all (fun p => match p.2 with
    | .cell => false
    | .free => decide (dsc.names.lookup p.1 = some .cell)
    | .local => decide (sc.names.lookup p.1 = some .local)
    | _ => true) && decide (sc.names.lookup x = some .local) && !N.contains x &&
  N.all (fun y => match sc.names.lookup y with
    | some .local => false
    | some .cell => false
    | some .free => decide (dsc.names.lookup y = some .cell)
    | _ => true)
theorem lookup_relabel {env : Env} : ∀ {names : List (Str × NameKind)} {x : Str} {k : NameKind}, (names.map fun (n, k) => if (k == NameKind.free && env.scope.kind == .function && env.kindOf n == some .cell) then (n, NameKind.cell) else (n, k)).lookup x = some k →
    ∃ k', names.lookup x = some k' ∧ (k = k' ∨ (k' = .free ∧ k = .cell))
  | [], _, _, h => by simp at h
  | (n, k0) :: r, x, k, h => by
    have ih := @lookup_relabel env r x k
    have h' : List.lookup x ((if (k0 == NameKind.free && env.scope.kind == .function && env.kindOf n == some .cell) = true then (n, NameKind.cell) else (n, k0)) :: _) = some k := h
    by_cases e : x = n
    · subst e
      refine ⟨k0, by simp [List.lookup], ?_⟩
      split at h'
      · rename_i c
        simp only [List.lookup, beq_self_eq_true] at h'
        cases h'
        simp only [Bool.and_eq_true, beq_iff_eq] at c
        exact .inr ⟨c.1.1, rfl⟩
      · simp only [List.lookup, beq_self_eq_true] at h'
        cases h'
        exact .inl rfl
    · have ne : (x == n) = false := by simp [e]
      have h2 : List.lookup x (r.map fun (n, k) => if (k == NameKind.free && env.scope.kind == .function && env.kindOf n == some .cell) then (n, NameKind.cell) else (n, k)) = some k := by
        split at h' <;> simpa [List.lookup, ne] using h'
      obtain ⟨k', h3, h4⟩ := ih h2
      exact ⟨k', by simpa [List.lookup, ne] using h3, h4⟩
theorem comp_ok {X : Cx} {x : Str} {sc : Scope} (hcell : ∀ y, X.env.scope.names.lookup y = some .cell → ∃ c, X.env.cells.lookup y = some c) (h : compChk X.N x sc X.env.scope = true) : ∃ cl, CompOk X x sc cl := by
  unfold compChk at h
  simp only [Bool.and_eq_true, decide_eq_true_eq, List.all_eq_true, Bool.not_eq_true'] at h
  obtain ⟨⟨⟨⟨⟨h1, h2⟩, h3⟩, h4⟩, h5⟩, h6⟩ := h
  have fr : ∀ p ∈ sc.names, p.2 = .free → X.env.scope.names.lookup p.1 = some .cell := fun p hp e => by
    have := h3 p hp
    rw [e] at this
    simpa using this
  obtain ⟨cl, e, c1, c2, c3⟩ := closure_ex (env := X.env) sc.names [] fun p hp hf => hcell _ (fr p hp hf)
  have inC : ∀ y c, cl.lookup y = some c → X.env.cells.lookup y = some c := fun y c hl => by
    rcases c1 _ (PySem.mem_of_lookup hl) with q | q
    · exact nomatch q
    · exact q
  refine ⟨cl, ⟨?_, inC, fun y hy => ?_, fun p hp e => ?_, h1, fun p hp e => ?_, h4, fun y hy hv => ?_, ?_⟩⟩
  · unfold closureFor
    dsimp only
    rw [e]; rfl
  · have key : ∀ k, (relabel sc X.env).names.lookup y = some k → k = .cell ∨ k = .free → ∃ c, cl.lookup y = some c := fun k hk hkk => by
      obtain ⟨k', e1, e2⟩ := lookup_relabel hk
      have kf : k' = .free := by
        rcases e2 with e2 | e2
        · subst e2
          rcases hkk with z | z
          · subst z
            have := h3 _ (PySem.mem_of_lookup e1)
            simp at this
          · exact z
        · exact e2.1
      subst kf
      obtain ⟨c, hc⟩ := c2 _ (PySem.mem_of_lookup e1) rfl
      have : (cl.lookup y).isSome = true := by
        clear e inC c1 c2 c3 hk e1 e2
        induction cl with
        | nil => exact nomatch hc
        | cons p r ih =>
          simp only [List.lookup]
          by_cases z : y == p.1
          · rw [z]; rfl
          · rw [Bool.not_eq_true] at z
            rw [z]
            rcases List.mem_cons.mp hc with q | q
            · subst q; simp at z
            · exact ih q
      exact Option.isSome_iff_exists.mp this
    rcases hy with hy | hy
    · exact key _ hy (.inl rfl)
    · exact key _ hy (.inr rfl)
  · have := h3 p hp
    rw [e] at this
    simp at this
  · have := h3 p hp
    rw [e] at this
    simpa using this
  · have q6 := h6 y hy
    have pick : ∃ k, (relabel sc X.env).names.lookup y = some k ∧ (k = .local ∨ k = .cell ∨ k = .free) := by
      rcases hv with z | z | z
      · exact ⟨_, z, .inl rfl⟩
      · exact ⟨_, z, .inr (.inl rfl)⟩
      · exact ⟨_, z, .inr (.inr rfl)⟩
    obtain ⟨k, hk, hkk⟩ := pick
    obtain ⟨k', e1, e2⟩ := lookup_relabel hk
    rw [e1] at q6
    have kf : k' = .free := by
      cases k' with
      | «local» => simp at q6
      | cell => simp at q6
      | free => rfl
      | globalExplicit => rcases e2 with z | z <;> rcases hkk with w | w | w <;> simp_all
      | globalImplicit => rcases e2 with z | z <;> rcases hkk with w | w | w <;> simp_all
    subst kf
    have dc : X.env.scope.names.lookup y = some .cell := by simpa using q6
    refine ⟨?_, .inl dc⟩
    rcases e2 with z | z
    · subst z; exact .inr hk
    · rw [z.2] at hk; exact .inl hk
  · intro hm
    have : X.N.contains x = true := List.contains_iff_mem.mpr hm
    rw [this] at h5; cases h5
/-- what a comprehension walks: nothing is changed meanwhile -/
structure ItC (K : PySem.W.Frag) (J : It) (Hf Hh : Hp) (items : List PyData) : Prop where
  go : ∀ i H, Same Hf H → i < items.length → J.go i H
  yld : ∀ i H x H' d, Same Hf H → items[i]? = some d → J.yld i H x H' → H' = H ∧ DV K Hh x d
  stop : ∀ i H, Same Hf H → items.length ≤ i → J.stop i H
def RdIc (K : PySem.W.Frag) (E : XK) (wi : TI) (f : List Sl → M (List PyData)) : Prop :=
  ∀ (H0 : Hp) (σ : L2.St) (H : Hp) (δ : List Sl) (S : Addr → Bool) (R : It → Hp → Prop) (r : Res (List PyData)), Loc K H0 σ H δ S → f δ = some r →
    (match r with | .ok items => ∀ J H' S', Ext H S H' S' → ItC K J H' (hid H' S') items → R J H' | .err C => ∀ H' S', Ext H S H' S' → E (.ref (ecx C)) none H') → wi σ H R
def DIc (X : Cx) (E : XK) (tg iter : Expr) (f : List Sl → M (List PyData)) : Prop := ∃ wi, PI X tg iter wi ∧ RdIc X.K E wi f
theorem DI.c {X : Cx} {E : XK} {tg iter : Expr} {f : List Sl → M (List PyData)} (h : DI X E tg iter f) : DIc X E tg iter f := by
  obtain ⟨wi, a, b⟩ := h
  refine ⟨wi, a, fun H0 σ H δ S R r L e q => b H0 σ H δ S R r L e ?_⟩
  cases r with
  | ok items => exact fun J H' S' g it => q J H' S' g ⟨fun i H s => it.go i H (hid_up.trans s), fun i H x H1 d s e y => it.yld i H x H1 d (hid_up.trans s) e y, fun i H s => it.stop i H (hid_up.trans s)⟩
  | err C => exact q
section
variable {X : Cx} {E : XK} {K : PySem.W.Frag}
theorem Kid.uncons {G : Hp} {σ : L2.St} {δ : List Sl} {v : Option V} {d : PyData} {i : Nat} {a : Addr} (k : Kid G (v :: σ) (.dat d :: δ) i a) : ∃ i', i = i' + 1 ∧ Kid G σ δ i' a := by
  obtain ⟨o, c, x, y, e1, e2, e3⟩ := k
  cases i with
  | zero => cases e1
  | succ i => exact ⟨i, rfl, o, c, x, y, by simpa using e1, by simpa using e2, e3⟩
theorem Loc.cons {H0 H : Hp} {σ : L2.St} {δ : List Sl} {S : Addr → Bool} {v : V} {d : PyData} (L : Loc K H0 σ H δ S) (h : DV K (hid H S) v d) : Loc K H0 (some v :: σ) H (.dat d :: δ) S := by
  refine ⟨L.old, L.frs, L.lst, by rw [List.length_cons, List.length_cons, L.len], fun i d' e => ?_, fun i C e => ?_, fun i es e => ?_, fun i j d1 d2 a e1 e2 e3 e4 => ?_, fun i o e => ?_, fun i j ds a kd e => ?_, fun i j a kd kd' => ?_⟩
  · cases i with
    | zero => cases e; exact ⟨v, rfl, h⟩
    | succ i => exact L.dat i d' (by simpa using e)
  · cases i with
    | zero => cases e
    | succ i => exact L.exc i C (by simpa using e)
  · cases i with
    | zero => cases e
    | succ i => exact L.own i es (by simpa using e)
  · cases i with
    | zero => cases e1
    | succ i =>
      cases j with
      | zero => cases e2
      | succ j => rw [L.one i j d1 d2 a (by simpa using e1) (by simpa using e2) (by simpa using e3) (by simpa using e4)]
  · cases i with
    | zero => cases e
    | succ i => exact L.two i o (by simpa using e)
  · obtain ⟨i', rfl, kd⟩ := kd.uncons
    cases j with
    | zero => cases e
    | succ j => exact L.sep i' j ds a kd (by simpa using e)
  · obtain ⟨i', rfl, kd⟩ := kd.uncons
    obtain ⟨j', rfl, kd'⟩ := kd'.uncons
    rw [L.sop i' j' a kd kd']
/-- a list that no name holds is changed -/
theorem Loc.mutX {H0 H : Hp} {σ : L2.St} {δ : List Sl} {S : Addr → Bool} {a : Addr} {xs : List V} (L : Loc K H0 σ H δ S) (hS : S a = true) (hn : ∀ (j : Nat) (es : List PyData), δ[j]? = some (Sl.own es) → σ[j]? ≠ some (some (V.ref a))) (hk : ∀ j, ¬ Kid (hid H S) σ δ j a) : Loc K H0 σ (upd H a (.lst xs)) δ S := by
  have hh := hid_mut (H := H) (o := .lst xs) hS
  refine ⟨fun b o h => ?_, L.frs, fun b h => ?_, L.len, by rw [hh]; exact L.dat, by rw [hh]; exact L.exc, fun j es e => ?_, L.one, fun j o e => ?_, by rw [hh]; exact L.sep, by rw [hh]; exact L.sop⟩
  · have : b ≠ a := by intro z; subst z; rw [L.frs b hS] at h; cases h
    rw [upd_ne this]; exact L.old b o h
  · by_cases c : b = a
    · subst c; exact ⟨xs, upd_same⟩
    · rw [upd_ne c]; exact L.lst b h
  · rw [hh]
    obtain ⟨b, ys, q1, q2, q3, q4⟩ := L.own j es e
    have : b ≠ a := by intro z; subst z; exact hn j es e q1
    exact ⟨b, ys, q1, q2, by rw [upd_ne this]; exact q3, q4⟩
  · rw [hh]
    obtain ⟨c, x, y, xs', ys, q1, q2, q3, q4, q5, q6, q7⟩ := L.two j o e
    obtain ⟨k1, k2⟩ := Kid.mk' (G := hid H S) e q1 q2
    have n1 : x ≠ a := fun z => hk j (z ▸ k1)
    have n2 : y ≠ a := fun z => hk j (z ▸ k2)
    exact ⟨c, x, y, xs', ys, q1, q2, q3, q4, by rw [upd_ne n1]; exact q5, by rw [upd_ne n2]; exact q6, q7⟩
/-- [elt for x in items if t] -/
def lcN (ft : List Sl → M Bool) (fe : List Sl → M Rz) (δ : List Sl) : List PyData → Option (List PyData)
  | [] => some []
  | d :: r => match ft (.dat d :: δ) with
    | some (.ok true) => (match fe (.dat d :: δ) with
      | some (.ok z) => (match datOf z, lcN ft fe δ r with
        | some e, some es => some (e :: es)
        | _, _ => none)
      | _ => none)
    | some (.ok false) => lcN ft fe δ r
    | _ => none
def fLC (fi : List Sl → M (List PyData)) (ft : List Sl → M Bool) (fe : List Sl → M Rz) (δ : List Sl) : M Rz := bnd (fi δ) fun items => if items.length < sizeLine then (match lcN ft fe δ items with | some ds => okM (.new ds) | none => none) else none
def DIfs (X : Cx) (ifs : List Expr) (f : List Sl → M Bool) : Prop := PIfs X ifs (tDT X.K E0 f)
def fTrue (_ : List Sl) : M Bool := okM true
theorem difs_nil : DIfs X [] fTrue := fun pins s σ H Q I q => by
  obtain ⟨H0, δ, S, r, L, e, q⟩ := q
  cases e
  exact pifs_nil pins s σ H Q I (q H S .refl)
theorem len_lc {ft : List Sl → M Bool} {fe : List Sl → M Rz} {δ : List Sl} : ∀ {items ds : List PyData}, lcN ft fe δ items = some ds → ds.length ≤ items.length
  | [], ds, h => by cases h; exact Nat.le_refl _
  | d :: r, ds, h => by
    unfold lcN at h
    split at h
    · split at h
      · split at h
        · rename_i e es e1 e2
          cases h
          have := len_lc e2
          simp; omega
        · cases h
      · cases h
    · have := len_lc h
      simp; omega
    · cases h
theorem rd_lc {E' : XK} {wi : TI} {fi : List Sl → M (List PyData)} {ft : List Sl → M Bool} {fe : List Sl → M Rz} (i2 : RdIc K E wi fi) : RdE K E (tLC wi (tDT K E0 ft) (tD K E' fe)) (fLC fi ft fe) := by
  intro H0 σ H δ S Q z L h q
  rcases bnd_inv h with ⟨items, h1, h⟩ | ⟨C, h1, rfl⟩
  · refine i2 H0 σ H δ S _ _ L h1 fun J H1 S1 g1 it => ?_
    split at h
    · rename_i hsz
      split at h
      · rename_i total etot
        cases h
        intro acc hacc
        have L1 := L.ext g1
        have ne : ∀ (j : Nat) (es : List PyData), δ[j]? = some (Sl.own es) → σ[j]? ≠ some (some (V.ref acc)) := fun j es e c => by
          obtain ⟨b, e1, e2⟩ := L1.owned j es e
          rw [c] at e1; cases e1
          exact e2 hacc
        have tl := len_lc etot
        refine ⟨fun i m xs H => m = items.length - i ∧ i ≤ items.length ∧ ∃ S es rest, Loc K (hid H1 S1) σ H δ S ∧ S acc = true ∧ H acc = some (.lst xs) ∧ DVs K (hid H S) xs es ∧ lcN ft fe δ (items.drop i) = some rest ∧ es ++ rest = total ∧ Ext H1 S1 H S,
          ⟨items.length, by simp, Nat.zero_le _, ins S1 acc, [], total, ?_, ins_same, upd_same, .nil, etot, rfl, Ext.ins hacc⟩, ?_⟩
        · have := (L1.ground).ext (Ext.ins (xs := []) hacc)
          exact this
        · rintro i m xs H2 ⟨rfl, hi, S2, es, rest, L2, sa, ha, hx, hr, htot, g2⟩
          refine ⟨ha, ?_⟩
          by_cases hlt : i < items.length
          · have ei : items[i]? = some items[i] := List.getElem?_eq_getElem hlt
            rw [List.drop_eq_getElem_cons hlt] at hr
            unfold lcN at hr
            refine .inr ⟨it.go i H2 g2.up hlt, fun y H' hy => ?_⟩
            obtain ⟨rfl, dy⟩ := it.yld i H2 y H' _ g2.up ei hy
            have Lc := L2.cons (DV.same L2.base dy)
            split at hr
            · rename_i et
              refine ⟨_, _, S2, _, Lc, et, fun H3 S3 g3 => ?_⟩
              refine iteT ?_
              split at hr
              · rename_i zz ez
                split at hr
                · rename_i e er e1 e2
                  cases hr
                  refine ⟨_, _, S3, _, Lc.ext g3, ez, fun v H4 S4 g4 rv => ?_⟩
                  have L4 := (L2.ext g3).ext g4
                  have xe4 := (g2.trans g3).trans g4
                  have sa4 : S4 acc = true := g4.sub _ (g3.sub _ sa)
                  have lx : xs.length < sizeLine := by
                    rw [DVs.len hx]
                    have : es.length + (er.length + 1) = total.length := by rw [← htot, List.length_append, List.length_cons]
                    omega
                  refine ⟨g4.up _ _ (g3.up _ _ ha), lx, items.length - (i + 1), by omega, rfl, hlt, S4, es ++ [e], er, L4.mutX sa4 ne (fun j k => L1.kids xe4 j acc k hacc), sa4, upd_same, ?_, e2, by rw [List.append_assoc]; exact htot, ?_⟩
                  · rw [hid_mut sa4]
                    exact DVs.append (.cons (datOf_ok ((Lc.ext g3).ext g4) rv e1) .nil) (DVs.same g4.hd (DVs.same g3.hd hx))
                  · refine ⟨fun b o e => ?_, by rw [hid_mut sa4]; exact xe4.hd, xe4.sub, fun b hb => ?_⟩
                    · have : b ≠ acc := by intro z; subst z; rw [hacc] at e; cases e
                      rw [upd_ne this]; exact xe4.up b o e
                    · rcases xe4.new b hb with z | ⟨z, w⟩
                      · exact .inl z
                      · refine .inr ⟨z, ?_⟩
                        by_cases c : b = acc
                        · subst c; exact ⟨_, upd_same⟩
                        · rw [upd_ne c]; exact w
                · cases hr
              · cases hr
            · rename_i et
              refine ⟨_, _, S2, _, Lc, et, fun H3 S3 g3 => ?_⟩
              refine iteF ?_
              exact ⟨items.length - (i + 1), by omega, rfl, hlt, S3, es, rest, L2.ext g3, g3.sub _ sa, g3.up _ _ ha, DVs.same g3.hd hx, hr, htot, g2.trans g3⟩
            · cases hr
          · have e : i = items.length := by omega
            subst e
            rw [List.drop_length] at hr
            cases hr
            rw [List.append_nil] at htot
            subst htot
            refine .inl ⟨it.stop _ H2 g2.up (Nat.le_refl _), q _ H2 S2 (g1.trans g2) ⟨acc, xs, rfl, sa, g1.up.free hacc, ha, hx⟩⟩
      · cases h
    · cases h
  · exact i2 H0 σ H δ S _ _ L h1 q
end
end D3

set_option Elab.async false
set_option linter.all false
set_option maxRecDepth 100000
set_option maxHeartbeats 4000000
namespace D3
open PySem PySem.Spec PyProof.Rows L2 L3
variable [Ecx]
section
variable {X : Cx} {E : XK} {K : PySem.W.Frag}
/-! ### try: f(..) | x = f(..), except C as n: .. -/
/-- what may be caught -/
def CatchAll (K : PySem.W.Frag) (B : Addr) (cs : Ex → Bool) : Prop := ∀ n, cs n = true → CatchK K (ecx n) B ∧ isFn n = false
def afterH (j : Nat) (r : Option Fl) : Option Fl :=
  match r with
  | some (.next δ) => some (.next (δ.set j .no))
  | _ => none
def kSet (i : Nat) (z : Rz) (δ : List Sl) : Option (List Sl) := match slotOf z with | some s => some (δ.set i s) | none => none
end
end D3

set_option Elab.async false
set_option linter.all false
set_option maxRecDepth 100000
set_option maxHeartbeats 4000000
namespace D3
open PySem PySem.Spec PyProof.Rows L2 L3
variable [Ecx]
/-- a constant of the module -/
structure HasC (K : PySem.W.Frag) (mg : Str → Option Value) (x : Str) (d : PyData) : Prop where
  ex : ∃ v u, mg x = some u ∧ RelV v u ∧ ∀ H, DV K H v d
theorem de_const {X : Cx} {E : XK} {x : Str} {d : PyData} {pos : Pos} (h : HasC X.K X.mg x d) (hg : Gl X x := by rfl) (hdb : (x == ("__debug__" : Str)) = false := by decide) : DE X E (.Name x pos) (fC d) := by
  obtain ⟨v, u, hm, r, hd⟩ := h.ex
  exact de_glob hm r hd hg hdb
theorem hasC_int {K : PySem.W.Frag} {mg : Str → Option Value} {x : Str} {i : Int} {t : Tok} (h : mg x = some (.int i t)) : HasC K mg x (.int i) := ⟨.int i, _, h, ⟨t, rfl⟩, fun _ => .int i⟩
theorem hasC_pair {K : PySem.W.Frag} {mg : Str → Option Value} {x : Str} {a : Addr} {i j : Int} {t u : Tok} {od : Option Addr} {n : Nat} {sl : Array (Option Value)} (h : mg x = some (.ref a)) (l : K.lookup a = some ⟨.type "tuple", od, .seq #[.int i t, .int j u] n, sl⟩) : HasC K mg x (.tuple [.int i, .int j]) :=
  ⟨.ref a, _, h, rfl, fun H => .tup (xs := [.int i, .int j]) (.inr ⟨_, _, _, l, rfl, rfl, (by show 2 ≤ sizeLine; decide), .cons ⟨t, rfl⟩ (.cons ⟨u, rfl⟩ .nil)⟩) (.cons (.int i) (.cons (.int j) .nil))⟩
/-- answers by a table -/
def ansL : List (Tg × Bool) → Tg → Option Bool
  | [], _ => none
  | (t, b) :: r, tg => if tg = t then some b else ansL r tg
theorem ansL_mem : ∀ {l : List (Tg × Bool)} {tg : Tg} {b : Bool}, ansL l tg = some b → (tg, b) ∈ l
  | [], _, _, h => nomatch h
  | (t, b') :: r, tg, b, h => by
    unfold ansL at h
    split at h
    · rename_i e; subst e; cases h; exact .head _
    · exact .tail _ (ansL_mem h)
theorem isK_of {K : PySem.W.Frag} {cv : V} {l : List (Tg × Bool)} (c : isCls cv = true) (h : ∀ p ∈ l, PySem.W.kitOne K (tgV p.1) (vOf cv) = some p.2 ∧ ∀ n, p.1 = .exc n → ExcK K (ecx n)) : IsK K cv (ansL l) :=
  ⟨c, fun tg b e => (h _ (ansL_mem e)).1, fun n b e => (h _ (ansL_mem e)).2 n rfl⟩
theorem isKs_of {K : PySem.W.Frag} {cs : List V} {l : List (Tg × Bool)} (c : ∀ c ∈ cs, isCls c = true) (h : ∀ p ∈ l, PySem.W.kitAny K (tgV p.1) (cs.map vOf) = some p.2 ∧ ∀ n, p.1 = .exc n → ExcK K (ecx n)) : IsKs K cs (ansL l) :=
  ⟨c, fun tg b e => (h _ (ansL_mem e)).1, fun n b e => (h _ (ansL_mem e)).2 n rfl⟩
theorem catch_of {K : PySem.W.Frag} {B : Addr} {cs : List Ex} (h : ∀ n ∈ cs, CatchK K (ecx n) B) (hf : ∀ n ∈ cs, isFn n = false := by decide) : CatchAll K B (fun n => decide (n ∈ cs)) := fun n e => ⟨h n (of_decide_eq_true e), hf n (of_decide_eq_true e)⟩
/-- the law's end -/
theorem dvs_ints {K : PySem.W.Frag} {H : Hp} : ∀ ns : List Int, DVs K H (ns.map V.int) (ns.map PyData.int)
  | [] => .nil
  | n :: r => .cons (.int n) (dvs_ints r)
theorem law_conv {P : Program} {w : World} {K : PySem.W.Frag} {mg : Str → Option Value} {base : Heap} {k : Nat} {f : Addr} {fd : FuncData} {F : List PyData → M Out} (h : FnOk P w K mg base (CXR P w) k f fd ["_law_script"] (spD K 1 F)) (hk : k ≤ 40)
    (pure_ : ∀ ns : List Int, ns.length ≤ 63 → F [.list (ns.map PyData.int)] = some (.ok (.val (.bool true)))) : FnOk P w K mg base CX0 40 f fd ["_law_script"] (spLaw K) := by
  refine ⟨fun vs H Q E h => ?_, fun A outer s H args us vs Q E hr e0 hb rv sp => ?_⟩
  · obtain ⟨a, ns, rfl, _⟩ := h; rfl
  · obtain ⟨a, ns, rfl, hS, hl, q⟩ := sp
    refine codeAny_mono (h.run A outer s H args us [.ref a] Q (fun _ _ _ => False) (hr.mono hk) e0 hb rv ⟨[.list (ns.map PyData.int)], _, rfl, .cons (.lst hS (dvs_ints ns)) .nil, pure_ ns hl, ?_⟩) fun r s' hq => ?_
    · intro v H' g dv
      cases dv
      exact q H'
    · cases r with
      | ok fl => cases fl <;> exact hq
      | error e =>
        obtain ⟨_, _, _, _, _, _, _, _, _, _, _, _, _, _, z⟩ := hq
        exact z.elim
end D3

set_option Elab.async false
set_option linter.all false
set_option maxRecDepth 100000
set_option maxHeartbeats 4000000
namespace D3
open PySem PySem.Spec PyProof.Rows L2 L3
variable [Ecx]
section
variable {X : Cx} {E : XK} {K : PySem.W.Frag}
/-! ### reversed(t), range(a, b, -1), x[::-1] -/
end
end D3

set_option Elab.async false
set_option linter.all false
set_option maxRecDepth 100000
set_option maxHeartbeats 4000000
namespace D3
open PySem PySem.Spec PyProof.Rows L2 L3
theorem boot_ValueError : bootBuiltins "ValueError" = some (.type "ValueError") := by decide +kernel
end D3

set_option Elab.async false
set_option linter.all false
set_option maxRecDepth 100000
set_option maxHeartbeats 4000000
namespace D3
open PySem PySem.Spec PyProof.Rows L2 L3
variable [Ecx]
section
variable {X : Cx} {E : XK}
end
end D3

set_option Elab.async false
set_option linter.all false
set_option maxRecDepth 100000
set_option maxHeartbeats 4000000
namespace D3
open PySem PySem.Spec PyProof.Rows L2 L3
variable [Ecx]
section
variable {X : Cx} {E : XK} {K : PySem.W.Frag}
end
end D3

set_option Elab.async false
set_option linter.all false
set_option maxRecDepth 100000
set_option maxHeartbeats 4000000
namespace D3
open PySem PySem.Spec PyProof.Rows L2 L3
variable [Ecx]
section
variable {X : Cx} {E : XK} {K : PySem.W.Frag}
/-! ### walked: one kind or the other -/
/-! ### return (a, b, ..) with lists of one's own in it -/
/-! ### list + list of any kind -/
def gCatS (x y : Rz) : M Rz :=
  match x.d?, y.d? with
  | some (.list ds), some (.list es) => if kept x ds = true ∧ kept y es = true ∧ ds.length + es.length ≤ sizeLine then okM (.new (ds ++ es)) else none
  | _, _ => none
theorem od_catS : OpD K E (rCatS K) gCatS := by
  intro H0 σ H δ S Ha Hb v w x y z Q L rx ry h q
  unfold gCatS at h
  split at h
  · rename_i ds es e1 e2
    split at h
    · rename_i hz
      cases h
      obtain ⟨a, xs, rfl, ha, _, hx⟩ := seq_list L rx e1
      obtain ⟨b, ys, rfl, hb, _, hy⟩ := seq_list L ry e2
      have hx := hx hz.1
      have hy := hy hz.2.1
      refine ⟨a, b, xs, ys, rfl, rfl, ha, hb, by rw [DVs.len hx, DVs.len hy]; exact hz.2.2, fun p hp => ?_⟩
      exact q _ _ (ins S p) (Ext.ins hp) ⟨p, _, rfl, ins_same, hp, upd_same, by rw [hid_ins hp]; exact DVs.append hy hx⟩
    · cases h
  · cases h
/-! ### in, not in -/
/-! ### bits -/
end
end D3

set_option Elab.async false
set_option linter.all false
set_option maxRecDepth 100000
set_option maxHeartbeats 4000000
namespace D3
open PySem PySem.Spec PyProof.Rows L2 L3
variable [Ecx]
section
variable {X : Cx} {E : XK} {K : PySem.W.Frag}
def chkN (N N' : List Str) (x : Str) (sc : Scope) : Bool :=
  decide (N'.length = N.length) && decide N'.Nodup && !N'.contains x && (N.zip N').all fun p => decide (p.1 = p.2) || decide (sc.names.lookup p.2 = none)
theorem comp_okN {N' : List Str} {x : Str} {sc : Scope} (hcell : ∀ y, X.env.scope.names.lookup y = some .cell → ∃ c, X.env.cells.lookup y = some c) (h : compChk N' x sc X.env.scope = true) (h2 : chkN X.N N' x sc = true) : ∃ cl, CompOkN X N' x sc cl := by
  obtain ⟨cl, ok⟩ := comp_ok (X := { X with N := N' }) hcell h
  unfold chkN at h2
  simp only [Bool.and_eq_true, decide_eq_true_eq, Bool.not_eq_true', List.all_eq_true, Bool.or_eq_true] at h2
  obtain ⟨⟨⟨g1, g2⟩, g3⟩, g4⟩ := h2
  have nx : x ∉ N' := fun hm => by
    have : N'.contains x = true := List.contains_iff_mem.mpr hm
    rw [this] at g3; cases g3
  refine ⟨cl, ⟨ok.clos, ok.sub, ok.has, ok.nocell, ok.kind, ok.names, ok.tgt, ok.cellv, List.nodup_cons.mpr ⟨nx, g2⟩, g1, fun i y e v => ?_⟩⟩
  have hi : i < N'.length := by
    by_cases c : i < N'.length
    · exact c
    · rw [List.getElem?_eq_none (by omega)] at e; cases e
  have hi2 : i < X.N.length := by omega
  have em : (X.N[i], N'[i]) ∈ X.N.zip N' := by
    have hz : i < (X.N.zip N').length := by rw [List.length_zip]; omega
    have : (X.N.zip N')[i] = (X.N[i], N'[i]) := List.getElem_zip
    rw [← this]; exact List.getElem_mem hz
  have ey : N'[i] = y := by rw [List.getElem?_eq_getElem hi] at e; exact Option.some.inj e
  rcases g4 _ em with z | z
  · rw [List.getElem?_eq_getElem hi2]
    exact congrArg some (z.trans ey)
  · exfalso
    dsimp only at z
    rw [ey] at z
    have no : ∀ k, (relabel sc X.env).names.lookup y = some k → False := fun k hk => by
      obtain ⟨k', e1, _⟩ := lookup_relabel hk
      rw [z] at e1; cases e1
    rcases v with v | v | v
    · exact no _ v
    · exact no _ v
    · exact no _ v
theorem de_lcN {n : Nat} {N' : List Str} {x : Str} {scope : Scope} {elt iter : Expr} {ifs : List Expr} {px pos : Pos} {fi : List Sl → M (List PyData)} {ft : List Sl → M Bool} {fe : List Sl → M Rz} (Z : Fit n X E) (hcell : ∀ y, X.env.scope.names.lookup y = some .cell → ∃ c, X.env.cells.lookup y = some c) (chk : compChk N' x scope X.env.scope = true) (chk2 : chkN X.N N' x scope = true)
    (hi : DIc X E (.Name x px) iter fi) (ht : ∀ cl C s0 H0 fp, Fit n (cxN X N' x scope cl C s0 H0 fp) E0 → DIfs (cxN X N' x scope cl C s0 H0 fp) ifs ft) (he : ∀ cl C s0 H0 fp, Fit n (cxN X N' x scope cl C s0 H0 fp) E0 → DE (cxN X N' x scope cl C s0 H0 fp) E0 elt fe)
    (hf : ∀ v, foldedSetIterable iter X.env v = pure v := by intro _; rfl) : DE X E (.ListComp elt [⟨.Name x px, iter, ifs, 0⟩] scope pos) (fLC fi ft fe) := by
  obtain ⟨cl, ok⟩ := comp_okN hcell chk chk2
  obtain ⟨wi, i1, i2⟩ := hi
  have fit : ∀ C s0 H0 fp, Fit n (cxN X N' x scope cl C s0 H0 fp) E0 := fun C s0 H0 fp => by
    refine ⟨fun pins σ H s e s' I h => ?_, fun pins σ H s h' ea C' vs I hm hE => hE.elim, PassesOwn.never, Z.cm, Z.rm, ok.nd⟩
    obtain ⟨_, _, _, _, _, _, _, _, _, _, _, _, _, _, z⟩ := h
    exact z.elim
  exact ⟨_, pe_lcN (tt := tDT X.K E0 ft) (te := tD X.K E0 fe) ok Z.cm i1 (fun C s0 H0 fp => ht cl C s0 H0 fp (fit C s0 H0 fp)) (fun C s0 H0 fp => (he cl C s0 H0 fp (fit C s0 H0 fp)).pe) hf, rd_lc i2⟩
end
end D3

set_option Elab.async false
set_option linter.all false
set_option maxRecDepth 100000
set_option maxHeartbeats 4000000
namespace D3
open PySem PySem.Spec PyProof.Rows L2 L3
variable [Ecx]
section
variable {X : Cx} {E : XK} {K : PySem.W.Frag}
/-! ### a op b op c -/
/-! ### return f(e, ..): what f tells is told -/
/-! ### xs.count(True), xs.index(True) of truths -/
def boolsOf : List PyData → Option (List Bool)
  | [] => some []
  | .bool b :: r => match boolsOf r with | some bs => some (b :: bs) | none => none
  | _ => none
theorem boolsOf_ok {H : Hp} : ∀ {xs : List V} {ds : List PyData} {bs : List Bool}, DVs K H xs ds → boolsOf ds = some bs → xs = bs.map V.bl
  | _, _, _, .nil, h => by cases h; rfl
  | _, _, _, .cons (d := d) r t, h => by
    cases d with
    | bool b =>
      unfold boolsOf at h
      split at h
      · rename_i e; cases h
        cases r
        rw [boolsOf_ok t e]; rfl
      · cases h
    | _ => cases h
def gIdx (x : Rz) : M Rz :=
  match x.d? with
  | some (.list ds) => (match boolsOf ds with | some bs => if bs.idxOf true < bs.length ∧ bs.length < 1000000 then okM (.dat (.int ((bs.idxOf true : Nat) : Int))) else none | none => none)
  | _ => none
theorem flat_bools (bs : List Bool) : (bs.map V.bl).all flatV = true := by
  induction bs with
  | nil => rfl
  | cons b t ih => rw [List.map_cons, List.all_cons, ih]; rfl
theorem idx_no : ∀ (bs : List Bool) (m : Nat) (b : Bool), m < bs.idxOf true → bs[m]? = some b → b = false
  | [], m, b, h, _ => by simp at h
  | true :: t, m, b, h, _ => by simp [List.idxOf_cons] at h
  | false :: t, 0, b, _, e => by simp at e; exact e
  | false :: t, m + 1, b, h, e => idx_no t m b (by simpa [List.idxOf_cons] using h) (by simpa using e)
theorem de_index {o : Expr} {f : List Sl → M Rz} {bpos : Pos} {j apos cpos} (ho : DE X E o f) (hs' : starEach [Expr.Constant (.bool true) j bpos] X.env = (false, eval (.Constant (.bool true) j bpos) X.env) :: starEach [] X.env := by rfl)
    (hbase : attributeBase o "index" X.env (eval o X.env) = eval o X.env := by rfl)
    (hfew : ((backTo cpos (starEach [Expr.Constant (.bool true) j bpos] X.env)).all (fun x => !x.1) && (backToKw cpos (keywordEach [] X.env)).all (fun x => x.1.isSome)
      && decide ([Expr.Constant (.bool true) j bpos].length + ([] : List Keyword).length + (if ([] : List Keyword).isEmpty then 0 else 1) < 30)) = true := by rfl)
    (hline : (apos.endLine == cpos.line) = true := by rfl) (hplain : (backTo cpos (starEach [] X.env)).any (·.1) = false := by rfl) :
    DE X E (.Call (.Attribute o "index" apos) [.Constant (.bool true) j bpos] [] cpos) (fU gIdx f) := by
  obtain ⟨t, a, b⟩ := ho
  refine ⟨_, pe_bm PySem.F.plainAttrs_list PySem.F.slot_list_index PySem.F.type_list_index mt_index a (pa_cons pe_bl pa_nil hs') hbase hfew hline hs' hplain, fun H0 σ H δ S Q z L h q => ?_⟩
  rcases bnd_inv h with ⟨x, h1, h⟩ | ⟨C, h1, rfl⟩
  · refine b H0 σ H δ S _ _ L h1 fun v H1 S1 g1 rv => ?_
    unfold gIdx at h
    split at h
    · rename_i ds e1
      split at h
      · rename_i bs e2
        split at h
        · rename_i hz
          cases h
          obtain ⟨c, xs, rfl, hs, hx, _⟩ := seq_list (L.ext g1) rv e1
          have ex := boolsOf_ok hx e2
          subst ex
          refine ⟨.inl ⟨rfl, _, hs⟩, c, _, .bl true, bs.idxOf true, rfl, rfl, hs, rfl, flat_bools bs, by omega, ?_, fun m y hm hy => ?_, q _ H1 S1 g1 (.int _)⟩
          · refine ⟨.bl true, ?_, rfl⟩
            rw [List.getElem?_map, List.getElem?_eq_getElem hz.1]
            have : bs[bs.idxOf true] = true := List.getElem_idxOf hz.1
            rw [this]; rfl
          · rw [List.getElem?_map] at hy
            cases e3 : bs[m]? with
            | none => rw [e3] at hy; cases hy
            | some bb =>
              rw [e3] at hy
              cases hy
              have := idx_no bs m bb hm e3
              subst this; rfl
        · cases h
      · cases h
    · cases h
  · exact b H0 σ H δ S _ _ L h1 q
end
end D3

set_option Elab.async false
set_option linter.all false
set_option maxRecDepth 100000
set_option maxHeartbeats 4000000
namespace D3
open PySem PySem.Spec PyProof.Rows L2 L3
variable [Ecx]
/-! ### a def of one argument that is handed a refusal -/
section
variable {X : Cx} {E : XK} {K : PySem.W.Frag}
end
end D3

set_option Elab.async false
set_option linter.all false
set_option maxRecDepth 100000
set_option maxHeartbeats 4000000
/-! a pair of lists that only one name holds: told back, kept, changed -/
namespace D3
open PySem PySem.Spec PyProof.Rows L2 L3
variable [Ecx]
section
variable {X : Cx} {E : XK} {K : PySem.W.Frag}
section
variable {H0 H H' : Hp} {σ : L2.St} {δ : List Sl} {S S' : Addr → Bool}
end
/-! ### x = f(..), where f tells a pair of new lists -/
/-! ### return (a, b): two lists of one's own -/
/-! ### x[j].append(e), x[j].clear() -/
def pick {α : Type} (j : Int) (a b : α) : Option α := if j = 0 then some a else if j = 1 then some b else none
end
end D3

set_option Elab.async false
set_option linter.all false
set_option maxRecDepth 100000
set_option maxHeartbeats 4000000
/-! x = l.pop(), l.extend(m), a text of the module -/
namespace D3
open PySem PySem.Spec PyProof.Rows L2 L3
variable [Ecx]
section
variable {X : Cx} {E : XK} {K : PySem.W.Frag}
end
end D3

set_option Elab.async false
set_option linter.all false
set_option maxRecDepth 100000
set_option maxHeartbeats 4000000
/-! name = a comprehension whose name is a name of the def -/
namespace D3
open PySem PySem.Spec PyProof.Rows L2 L3
variable [Ecx]
section
variable {X : Cx} {E : XK} {K : PySem.W.Frag}
end
end D3

set_option Elab.async false
set_option linter.all false
set_option maxRecDepth 100000
set_option maxHeartbeats 4000000
/-! all(l), any(l) -/
namespace D3
open PySem PySem.Spec PyProof.Rows L2 L3
variable [Ecx]
section
variable {X : Cx} {E : XK} {K : PySem.W.Frag}
def blsOf : List PyData → Option (List Bool)
  | [] => some []
  | .bool b :: r => (match blsOf r with | some bs => some (b :: bs) | none => none)
  | _ => none
theorem blsOf_ok {H : Hp} : ∀ {xs : List V} {ds : List PyData} {bs : List Bool}, DVs K H xs ds → blsOf ds = some bs → xs = bs.map V.bl
  | _, _, _, .nil, h => by cases h; rfl
  | _, _, bs, .cons (d := d) r t, h => by
    cases r with
    | bl b =>
      unfold blsOf at h
      split at h
      · rename_i bs' e
        cases h
        rw [blsOf_ok t e]; rfl
      · cases h
    | _ => cases h
def qOf (q : List Bool → Bool) (x : Rz) : M Rz :=
  match x.d? with
  | some (.list ds) => (match blsOf ds with | some bs => okM (.dat (.bool (q bs))) | none => none)
  | _ => none
theorem cd_q {q : List Bool → Bool} : CallD K E (fun xs H Q => ∃ (p : Addr) (bs : List Bool), xs = [.ref p] ∧ SqL K H p (bs.map V.bl) ∧ Q (.bl (q bs)) H) (g1 (qOf q)) := by
  refine cd1 (r := fun v H Q => ∃ (p : Addr) (bs : List Bool), [v] = [V.ref p] ∧ SqL K H p (bs.map V.bl) ∧ Q (.bl (q bs)) H) (fun H0 σ H δ S Hs v x z Q L rv h g => ?_) (fun _ _ _ h => h)
  unfold qOf at h
  split at h
  · rename_i ds e
    split at h
    · rename_i bs e2
      cases h
      have dv := rv.full e
      cases dv with
      | lst hs hx =>
        rename_i a xs
        rw [blsOf_ok hx e2] at hs
        exact ⟨a, bs, rfl, hs, g _ H S .refl (.bl _)⟩
    · cases h
  · cases h
def allB (bs : List Bool) : Bool := bs.all id
def anyB (bs : List Bool) : Bool := bs.any id
theorem cd_all : CallD K E (fun xs H Q => ∃ (p : Addr) (bs : List Bool), xs = [.ref p] ∧ SqL K H p (bs.map V.bl) ∧ Q (.bl (bs.all id)) H) (g1 (qOf allB)) := cd_q (q := allB)
theorem cd_any : CallD K E (fun xs H Q => ∃ (p : Addr) (bs : List Bool), xs = [.ref p] ∧ SqL K H p (bs.map V.bl) ∧ Q (.bl (bs.any id)) H) (g1 (qOf anyB)) := cd_q (q := anyB)
end
end D3

set_option Elab.async false
set_option linter.all false
set_option maxRecDepth 100000
set_option maxHeartbeats 4000000
namespace D3
open PySem PySem.Spec PyProof.Rows L2 L3
variable [Ecx]
section
variable {X : Cx} {E : XK} {K : PySem.W.Frag}
/-! ### a new list put into another thing: changed no more -/
def fzOf : Rz → Rz
  | .new ds => .dat (.list ds)
  | x => x
def fFz (f : List Sl → M Rz) (δ : List Sl) : M Rz := bnd (f δ) fun x => okM (fzOf x)
theorem rd_fz {t : TE} {f : List Sl → M Rz} (h : RdE K E t f) : RdE K E t (fFz f) := by
  intro H0 σ H δ S Q r L e q
  rcases bnd_inv e with ⟨x, h1, e⟩ | ⟨C, h1, rfl⟩
  · cases e
    refine h H0 σ H δ S Q _ L h1 fun v H1 S1 g1 rv => ?_
    cases x with
    | new ds =>
      obtain ⟨a, xs, rfl, z, n, ha, hx⟩ := rv
      refine q _ H1 (del S1 a) ⟨g1.up, g1.hd.trans same_del, fun b hb => ?_, fun b hb => ?_⟩ (.lst (SqL.of (by rw [hid_f del_same]; exact ha)) (DVs.same same_del hx))
      · rw [del_ne (by intro z; subst z; obtain ⟨ys, e⟩ := L.lst _ hb; rw [n] at e; cases e)]; exact g1.sub b hb
      · by_cases c : b = a
        · subst c; rw [del_same] at hb; cases hb
        · rw [del_ne c] at hb; exact g1.new b hb
    | dat d => exact q _ H1 S1 g1 rv
    | use d => exact q _ H1 S1 g1 rv
    | var d => exact q _ H1 S1 g1 rv
    | exc d => exact q _ H1 S1 g1 rv
  · exact h H0 σ H δ S Q _ L h1 q
theorem de_fz {e : Expr} {f : List Sl → M Rz} (h : DE X E e f) : DE X E e (fFz f) := let ⟨t, a, b⟩ := h; ⟨t, a, rd_fz b⟩
end
end D3

set_option Elab.async false
set_option linter.all false
set_option maxRecDepth 100000
set_option maxHeartbeats 4000000
namespace D3
open PySem PySem.Spec PyProof.Rows L2 L3
variable [Ecx]
section
variable {X : Cx} {E : XK} {K : PySem.W.Frag}
/-! ### // of any size -/
end
end D3

set_option Elab.async false
set_option linter.all false
set_option maxRecDepth 100000
set_option maxHeartbeats 4000000
namespace D3
open PySem PySem.Spec PyProof.Rows L2 L3
variable [Ecx]
section
variable {X : Cx} {E : XK} {K : PySem.W.Frag}
/-! ### f() -/
/-! ### for a, b in zip(l, m) -/
end
end D3

set_option Elab.async false
set_option linter.all false
set_option maxRecDepth 100000
set_option maxHeartbeats 4000000
namespace D3
open PySem PySem.Spec PyProof.Rows L2 L3
variable [Ecx]
section
variable {X : Cx} {E : XK} {K : PySem.W.Frag}
/-! ### [e for a, b in zip(l, m)] -/
end
end D3

set_option Elab.async false
set_option linter.all false
set_option maxRecDepth 100000
set_option maxHeartbeats 4000000
/-! texts as data -/
namespace D3
open PySem PySem.Spec PyProof.Rows L2 L3
variable [Ecx]
section
variable {X : Cx} {E : XK} {K : PySem.W.Frag}
end
end D3

set_option Elab.async false
set_option linter.all false
set_option maxRecDepth 100000
set_option maxHeartbeats 4000000
/-! texts as data: starts, parts, signs, int -/
namespace D3
open PySem PySem.Spec PyProof.Rows L2 L3
variable [Ecx]
section
variable {X : Cx} {E : XK} {K : PySem.W.Frag}
end
end D3

set_option Elab.async false
set_option linter.all false
set_option maxRecDepth 100000
set_option maxHeartbeats 4000000
/-! a call of a def that is handed no lists: what it tells, lists within it too, is new -/
namespace D3
open PySem PySem.Spec PyProof.Rows L2 L3
section
variable {P : Program} {w : World}
end
variable [Ecx]
end D3

set_option Elab.async false
set_option linter.all false
set_option maxRecDepth 100000
set_option maxHeartbeats 4000000
/-! for x in reversed(l), l a list -/
namespace D3
open PySem PySem.Spec PyProof.Rows L2 L3
variable [Ecx]
section
variable {X : Cx} {E : XK} {K : PySem.W.Frag}
end
end D3

set_option Elab.async false
set_option linter.all false
set_option maxRecDepth 100000
set_option maxHeartbeats 4000000
/-! try with a body of several statements: x = f(..), f(..), if -/
namespace D3
open PySem PySem.Spec PyProof.Rows L2 L3
variable [Ecx]
abbrev TX := (L2.St → XK) → Ends → L2.St → Hp → Prop
def PX (X : Cx) (st : Stmt) (t : TX) : Prop :=
  ∀ (pins : List (Addr × Obj)) (s : Shared) (σ : L2.St) (H : Hp) (D : Ends) (EX : L2.St → XK), Inv X pins σ H s → t EX D σ H → wpAny (model X.prog X.w) X.A (exec st X.env) (SP X pins D) (fun ev s1 => ∃ σ', XPost X pins σ' (EX σ') ev s1) s
def PXs (X : Cx) (st : List Stmt) (t : TX) : Prop :=
  ∀ (pins : List (Addr × Obj)) (s : Shared) (σ : L2.St) (H : Hp) (D : Ends) (EX : L2.St → XK), Inv X pins σ H s → t EX D σ H → wpAny (model X.prog X.w) X.A (execs st X.env) (SP X pins D) (fun ev s1 => ∃ σ', XPost X pins σ' (EX σ') ev s1) s
section
variable {X : Cx} {E : XK} {K : PySem.W.Frag}
theorem px_asg {e : Expr} {te : L2.St → Hp → VK → XK → Prop} {i : Nat} {y : Str} {p1 py : Pos} (he : PEX X e te) (hN : X.N.Nodup) (hi : X.N[i]? = some y) (hli : L2.Loc X.env.scope y) (hsw : swapsWith e (some (.Name y py)) p1.line X.env = pure false := by rfl) (hf : X.fn y = true ∨ X.env.scope.names.lookup y = some .local := by first | exact .inl rfl | exact .inr rfl) :
    PX X (.Assign [.Name y py] e p1) (fun EX D σ H => te σ H (fun x H1 => D.nx (σ.set i (some x)) H1) (EX σ)) := by
  intro pins s σ H D EX I h
  refine wpAny_Assign_Name (wpAny_mono (he pins s σ H _ _ I h) (fun v s1 z => ?_) fun v s1 z => ⟨σ, z⟩) hsw
  obtain ⟨u, H1, I1, r1, q1⟩ := z
  exact store_ok I1 hN hi hli r1 (fun s2 I2 => ⟨_, H1, I2, q1⟩) hf
theorem px_if {c : Expr} {a b : List Stmt} {tc : TT} {t u : TX} {pos : Pos} (hc : PT X.nox c tc) (ha : PXs X a t) (hb : PXs X b u) : PX X (.If c a b pos) (fun EX D σ H => tc σ H fun d H1 => if d = true then t EX D σ H1 else u EX D σ H1) := by
  intro pins s σ H D EX I h
  refine wpAny_If (wpAny_mono (hc pins s σ H _ (I.wish _) h) (fun d s1 z => ?_) fun _ _ z => z.elim)
  obtain ⟨H1, I1, q1⟩ := z
  have I1 : Inv X pins σ H1 s1 := I1.unwish
  cases d with
  | true => exact ha pins s1 σ H1 D EX I1 q1
  | false => exact hb pins s1 σ H1 D EX I1 q1
theorem pxs_nil : PXs X [] (fun _ D σ H => D.nx σ H) := fun pins s σ H D EX I h => wpAny_execs_nil ⟨σ, H, I, h⟩
theorem pxs_cons {st : Stmt} {rest : List Stmt} {t u : TX} (h1 : PX X st t) (h2 : PXs X rest u) : PXs X (st :: rest) (fun EX D σ H => t EX { D with nx := u EX D } σ H) := by
  intro pins s σ H D EX I h
  refine wpAny_execs_cons (thn (h1 pins s σ H { D with nx := u EX D } EX I h) fun f s1 q => ?_)
  cases f with
  | next =>
    obtain ⟨σ', H', I', q⟩ := q
    exact h2 pins s1 σ' H' D EX I' q
  | ret v => exact q
  | brk => exact q
  | cont => exact q
/-! the reading -/
inductive Xl where
  | next (δ : List Sl)
  | exc (C : Ex) (δ : List Sl)
def EndX (K : PySem.W.Frag) (EX : L2.St → XK) (H0 : Hp) (D : Ends) : Xl → Prop
  | .next δ => ∀ σ H S, Loc K H0 σ H δ S → D.nx σ H
  | .exc C δ => ∀ σ H S, Loc K H0 σ H δ S → EX σ (.ref (ecx C)) none H
def RdX (K : PySem.W.Frag) (t : TX) (f : List Sl → Option Xl) : Prop :=
  ∀ (H0 : Hp) (σ : L2.St) (H : Hp) (δ : List Sl) (S : Addr → Bool) (D : Ends) (EX : L2.St → XK) (fl : Xl), Loc K H0 σ H δ S → f δ = some fl → EndX K EX H0 D fl → t EX D σ H
def DX (X : Cx) (st : Stmt) (f : List Sl → Option Xl) : Prop := ∃ t, PX X st t ∧ RdX X.K t f
def DXs (X : Cx) (st : List Stmt) (f : List Sl → Option Xl) : Prop := ∃ t, PXs X st t ∧ RdX X.K t f
def xNext (δ : List Sl) : Option Xl := some (.next δ)
def xSeq (f g : List Sl → Option Xl) (δ : List Sl) : Option Xl :=
  match f δ with
  | some (.next δ') => g δ'
  | r => r
def xIf (c : List Sl → M Bool) (f g : List Sl → Option Xl) (δ : List Sl) : Option Xl :=
  match c δ with
  | some (.ok b) => if b = true then f δ else g δ
  | _ => none
def xCal (g : List Rz → M Rz) (fa : List Sl → M (List Rz)) (k : Rz → List Sl → Option (List Sl)) (δ : List Sl) : Option Xl :=
  match fa δ with
  | some (.ok zs) => (match g zs with
    | some (.ok z) => (match k z δ with | some δ' => some (.next δ') | none => none)
    | some (.err C) => some (.exc C δ)
    | none => none)
  | _ => none
theorem dxs_nil : DXs X [] xNext := ⟨_, pxs_nil, fun H0 σ H δ S D EX fl L h q => by cases h; exact q σ H S L⟩
theorem dxs_cons {st : Stmt} {rest : List Stmt} {f g : List Sl → Option Xl} (h1 : DX X st f) (h2 : DXs X rest g) : DXs X (st :: rest) (xSeq f g) := by
  obtain ⟨t, a, b⟩ := h1
  obtain ⟨u, c, d⟩ := h2
  refine ⟨_, pxs_cons a c, fun H0 σ H δ S D EX fl L h q => ?_⟩
  unfold xSeq at h
  split at h
  · rename_i δ' e
    exact b H0 σ H δ S _ EX _ L e fun σ1 H1 S1 L1 => d H0 σ1 H1 δ' S1 D EX fl L1 h q
  · rename_i r hr
    refine b H0 σ H δ S _ EX fl L h ?_
    cases fl with
    | next δ' => exact absurd h (hr δ')
    | exc C δ' => exact q
theorem dx_if {c : Expr} {a b : List Stmt} {fc : List Sl → M Bool} {f g : List Sl → Option Xl} {pos : Pos} (hc : DT X.nox E0 c fc) (ha : DXs X a f) (hb : DXs X b g) : DX X (.If c a b pos) (xIf fc f g) := by
  obtain ⟨tc, c1, c2⟩ := hc
  obtain ⟨t, a1, a2⟩ := ha
  obtain ⟨u, b1, b2⟩ := hb
  refine ⟨_, px_if c1 a1 b1, fun H0 σ H δ S D EX fl L h q => ?_⟩
  unfold xIf at h
  split at h
  · rename_i d e
    refine c2 H0 σ H δ S _ _ L e fun H1 S1 g1 => ?_
    cases d with
    | true => exact a2 H0 σ H1 δ S1 D EX fl (L.ext g1) h q
    | false => exact b2 H0 σ H1 δ S1 D EX fl (L.ext g1) h q
  · cases h
theorem cal_rd {m : Nat} {f : List PyData → M Out} {fa : List Sl → M (List Rz)} {ta : TA} {H0 H : Hp} {σ : L2.St} {δ : List Sl} {S : Addr → Bool} {D : Ends} {EX : L2.St → XK} {fl : Xl} {k : Rz → List Sl → Option (List Sl)} {Qn : V → Hp → Prop}
    (ra : RdA K E0 ta fa) (L : Loc K H0 σ H δ S) (h : xCal (gF m f) fa k δ = some fl)
    (hn : ∀ z δ', k z δ = some δ' → fl = .next δ' → ∀ v H' S', Ext H S H' S' → RV K H H' S' v z → Qn v H')
    (q : EndX K EX H0 D fl) : ta σ H fun vs H1 => spD K m f vs H1 Qn (EX σ) := by
  unfold xCal at h
  split at h
  · rename_i zs e
    refine ra H0 σ H δ S _ _ L e fun vs H1 S1 g1 rs => ?_
    have go : ∀ z, gF m f zs = some z → EndE K (EX σ) H1 S1 Qn z → spD K m f vs H1 Qn (EX σ) := fun z ez en => by
      have := cd_fn (K := K) (n := m) (f := f) H0 σ H1 δ S1 H vs zs z Qn (L.ext g1) rs ez en
      dsimp only at this
      rwa [List.append_nil] at this
    split at h
    · rename_i z ez
      split at h
      · rename_i δ' e2
        cases h
        exact go _ ez fun v H' S' g rv => hn z δ' e2 rfl v H' S' (g1.trans g) (rv.back g1)
      · cases h
    · rename_i C ez
      cases h
      exact go _ ez fun H' S' g => q σ H' S' ((L.ext g1).ext g)
    · cases h
  · cases h
theorem dx_callA (i : Nat) {kk n m : Nat} {fx y : Str} {ps : List Str} {f : List PyData → M Out} {e : Expr} {es : List Expr} {fa : List Sl → M (List Rz)} {p1 py pc fp : Pos} (Z : Fit n X E)
    (C : Cal X.prog X.w X.K X.mg X.base (CXR X.prog X.w) kk fx ps (spD X.K m f)) (ha : DA X.nox E0 (e :: es) fa) (hn : kk ≤ n := by decide) (hi : X.N[i]? = some y := by rfl) (hli : L2.Loc X.env.scope y := by first | exact Or.inl rfl | exact Or.inr rfl)
    (hgf : Gl X fx := by rfl) (hdf : (fx == ("__debug__" : Str)) = false := by decide) (he : starEach (e :: es) X.env = (false, eval e X.env) :: starEach es X.env := by rfl) (hpl : (backTo pc (starEach es X.env)).any (·.1) = false := by rfl)
    (hsw : swapsWith (.Call (.Name fx fp) (e :: es) [] pc) (some (.Name y py)) p1.line X.env = pure false := by rfl) (hf : X.fn y = true ∨ X.env.scope.names.lookup y = some .local := by first | exact .inl rfl | exact .inr rfl) :
    DX X (.Assign [.Name y py] (.Call (.Name fx fp) (e :: es) [] pc) p1) (xCal (gF m f) fa (kSet i)) := by
  obtain ⟨ta, a1, a2⟩ := ha
  refine ⟨_, px_asg (pex_cal C Z.rm a1 hn hgf hdf he hpl) Z.nd hi hli hsw hf, fun H0 σ H δ S D EX fl L h q => ?_⟩
  refine cal_rd a2 L h (fun z δ' e1 e2 v H' S' g rv => ?_) q
  subst e2
  unfold kSet at e1
  split at e1
  · rename_i s es
    cases e1
    exact q _ H' S' ((L.ext g).slot L.owned (L.kids g) rv es)
  · cases e1
/-! ### return f(..)[j], f tells a new tuple -/
end
end D3

set_option Elab.async false
set_option linter.all false
set_option maxRecDepth 100000
set_option maxHeartbeats 4000000
/-! ### defs that are handed on, comprehensions over three names, x = l.pop()[j] -/
namespace D3
open PySem PySem.Spec PyProof.Rows L2 L3
variable [Ecx]
section
variable {X : Cx} {E : XK} {K : PySem.W.Frag}
/-! ### x is True -/
/-! ### a call of a def that a name holds -/
/-! ### x = l.pop()[j] -/
end
end D3
namespace D3
open PySem L2
end D3

set_option Elab.async false
set_option linter.all false
set_option maxRecDepth 100000
set_option maxHeartbeats 4000000
/-! texts: split; a list of lists of texts -/
namespace D3
open PySem PySem.Spec PyProof.Rows L2 L3
variable [Ecx]
section
variable {X : Cx} {E : XK} {K : PySem.W.Frag}
/-! ### found = [[e]]; for w in it: found.append([w]) or found[-1].append(w); return found -/
end
end D3

set_option Elab.async false
set_option linter.all false
set_option maxRecDepth 100000
set_option maxHeartbeats 4000000
namespace D3
open PySem PySem.Spec PyProof.Rows L2 L3
section
variable {δ δ' : List Sl}
theorem ev_f2 {g : Rz → Rz → M Rz} {fa fb : List Sl → M Rz} {x y z : Rz} (h1 : fa δ = okM x) (h2 : fb δ = okM y) (h3 : g x y = okM z) : f2 g fa fb δ = okM z := by unfold f2; rw [h1, bnd_okM, h2, bnd_okM, h3]
theorem ev_fB {f : List Sl → M Rz} {x : Rz} {b : Bool} (h1 : f δ = okM x) (h2 : boolOf x = okM b) : fB f δ = okM b := by unfold fB; rw [h1, bnd_okM, h2]
theorem ev_not {f : List Sl → M Bool} {b : Bool} (h1 : f δ = okM b) : fNot f δ = okM (!b) := by unfold fNot; rw [h1, bnd_okM]
theorem ev_notT {f : List Sl → M Bool} (h1 : f δ = okM false) : fNot f δ = okM true := ev_not h1
theorem ev_notF {f : List Sl → M Bool} (h1 : f δ = okM true) : fNot f δ = okM false := ev_not h1
theorem ev_andT {f g : List Sl → M Bool} {b : Bool} (h1 : f δ = okM true) (h2 : g δ = okM b) : fAnd f g δ = okM b := by unfold fAnd; rw [h1, bnd_okM, if_pos rfl, h2]
theorem ev_andF {f g : List Sl → M Bool} (h1 : f δ = okM false) : fAnd f g δ = okM false := by unfold fAnd; rw [h1, bnd_okM]; rfl
theorem ev_or {f g : List Sl → M Bool} {a b : Bool} (h1 : f δ = okM a) (h2 : a = false → g δ = okM b) : fOr f g δ = okM (a || b) := by
  unfold fOr; rw [h1, bnd_okM]
  cases a with
  | true => rfl
  | false => rw [if_neg Bool.false_ne_true, h2 rfl]; rfl
theorem ev_orT {f g : List Sl → M Bool} (h1 : f δ = okM true) : fOr f g δ = okM true := by unfold fOr; rw [h1, bnd_okM]; rfl
theorem ev_orF {f g : List Sl → M Bool} {b : Bool} (h1 : f δ = okM false) (h2 : g δ = okM b) : fOr f g δ = okM b := by unfold fOr; rw [h1, bnd_okM, if_neg Bool.false_ne_true, h2]
theorem ev_fU {g : Rz → M Rz} {f : List Sl → M Rz} {x z : Rz} (h1 : f δ = okM x) (h2 : g x = okM z) : fU g f δ = okM z := by unfold fU; rw [h1, bnd_okM, h2]
theorem ev_cons {f : List Sl → M Rz} {g : List Sl → M (List Rz)} {x : Rz} {xs : List Rz} (h1 : f δ = okM x) (h2 : g δ = okM xs) : fCons f g δ = okM (x :: xs) := by unfold fCons; rw [h1, bnd_okM, h2, bnd_okM]
theorem ev_call {g : List Rz → M Rz} {fa : List Sl → M (List Rz)} {zs : List Rz} {z : Rz} (h1 : fa δ = okM zs) (h2 : g zs = okM z) : fCall g fa δ = okM z := by unfold fCall; rw [h1, bnd_okM, h2]
theorem ev_gF {n : Nat} {F : List PyData → M Out} {zs : List Rz} {ds : List PyData} {o : Out} {z : Rz} (h0 : dsOf zs = some ds) (h1 : ds.length = n) (h2 : F ds = okM o) (h3 : outZ o = z) : gF n F zs = okM z := by
  unfold gF; rw [h0]; dsimp only; rw [if_pos h1, h2, bnd_okM, h3]
theorem ev_gFX {n : Nat} {F : List PyData → M Out} {zs : List Rz} {ds : List PyData} {C : Ex} (h0 : dsOf zs = some ds) (h1 : ds.length = n) (h2 : F ds = some (.err C)) : gF n F zs = some (.err C) := by
  unfold gF; rw [h0]; dsimp only; rw [if_pos h1, h2]; rfl
/-! statements -/
theorem ev_seq {f g : List Sl → Option Fl} {r : Option Fl} (h1 : f δ = some (.next δ')) (h2 : g δ' = r) : fSeq f g δ = r := by unfold fSeq; rw [h1]; exact h2
theorem ev_seqR {f g : List Sl → Option Fl} {o : Out} (h1 : f δ = some (.ret o)) : fSeq f g δ = some (.ret o) := by unfold fSeq; rw [h1]
theorem ev_seqX {f g : List Sl → Option Fl} {C : Ex} (h1 : f δ = some (.exc C)) : fSeq f g δ = some (.exc C) := by unfold fSeq; rw [h1]
theorem ev_set {i : Nat} {f : List Sl → M Rz} {x : Rz} {s : Sl} (h : f δ = okM x) (h2 : slotOf x = some s) (h3 : δ.set i s = δ') : fSet i f δ = some (.next δ') := by unfold fSet; rw [h]; show (match slotOf x with | some s => some (Fl.next (δ.set i s)) | none => none) = _; rw [h2]; dsimp only; rw [h3]
theorem ev_sset {i : Nat} {f : List Sl → M Rz} {g : List Sl → Option Fl} {x : Rz} {s : Sl} {r : Option Fl} (h : f δ = okM x) (h2 : slotOf x = some s) (h3 : δ.set i s = δ') (h4 : g δ' = r) : fSeq (fSet i f) g δ = r := ev_seq (ev_set h h2 h3) h4
theorem ev_sif {c : List Sl → M Bool} {f k g : List Sl → Option Fl} {b : Bool} {r : Option Fl} (hc : c δ = okM b) (h1 : b = true → fSeq f g δ = r) (h2 : b = false → fSeq k g δ = r) : fSeq (fIfS c f k) g δ = r := by
  unfold fSeq fIfS at *
  rw [hc]
  cases b with
  | true => exact h1 rfl
  | false => exact h2 rfl
theorem ev_sifT {c : List Sl → M Bool} {f k g : List Sl → Option Fl} {r : Option Fl} (hc : c δ = okM true) (h1 : fSeq f g δ = r) : fSeq (fIfS c f k) g δ = r := ev_sif hc (fun _ => h1) (fun z => nomatch z)
theorem ev_sifF {c : List Sl → M Bool} {f k g : List Sl → Option Fl} {r : Option Fl} (hc : c δ = okM false) (h1 : fSeq k g δ = r) : fSeq (fIfS c f k) g δ = r := ev_sif hc (fun z => nomatch z) (fun _ => h1)
theorem ev_if {c : List Sl → M Bool} {f k : List Sl → Option Fl} {b : Bool} {r : Option Fl} (hc : c δ = okM b) (h1 : b = true → f δ = r) (h2 : b = false → k δ = r) : fIfS c f k δ = r := by
  unfold fIfS; rw [hc]
  cases b with
  | true => exact h1 rfl
  | false => exact h2 rfl
theorem ev_iT {c : List Sl → M Bool} {f k : List Sl → Option Fl} {r : Option Fl} (hc : c δ = okM true) (h1 : f δ = r) : fIfS c f k δ = r := ev_if hc (fun _ => h1) (fun z => nomatch z)
theorem ev_iF {c : List Sl → M Bool} {f k : List Sl → Option Fl} {r : Option Fl} (hc : c δ = okM false) (h1 : k δ = r) : fIfS c f k δ = r := ev_if hc (fun z => nomatch z) (fun _ => h1)
theorem ev_snext {g : List Sl → Option Fl} {r : Option Fl} (h : g δ = r) : fSeq fNext g δ = r := h
theorem ev_ret {f : List Sl → M Rz} {x : Rz} {o : Out} (h : f δ = okM x) (h2 : outOf x = some o) : fRet f δ = some (.ret o) := by unfold fRet; rw [h]; show (match outOf x with | some o => some (Fl.ret o) | none => none) = _; rw [h2]
theorem ev_sret {f : List Sl → M Rz} {g : List Sl → Option Fl} {x : Rz} {o : Out} (h : f δ = okM x) (h2 : outOf x = some o) : fSeq (fRet f) g δ = some (.ret o) := ev_seqR (ev_ret h h2)
theorem ev_par {i j : Nat} {fa : List Sl → M (List Rz)} {x y : Rz} {d e : PyData} (h : fa δ = okM [x, y]) (h1 : datOf x = some d) (h2 : datOf y = some e) (h3 : (δ.set i (.dat d)).set j (.dat e) = δ') : fPar i j fa δ = some (.next δ') := by
  unfold fPar; rw [h]; show (match datOf x, datOf y with | some d, some e => some (Fl.next ((δ.set i (.dat d)).set j (.dat e))) | _, _ => none) = _; rw [h1, h2]; dsimp only; rw [h3]
theorem ev_app {k : Nat} {f : List Sl → M Rz} {x : Rz} {d : PyData} {ds : List PyData} (hk : δ[k]? = some (.own ds)) (h : f δ = okM x) (h2 : datOf x = some d) (hl : ds.length < sizeLine) (h3 : δ.set k (.own (ds ++ [d])) = δ') : fApp k f δ = some (.next δ') := by
  unfold fApp fMut; rw [hk]; dsimp only; rw [h]; show (match datOf x with | some d => if ds.length < sizeLine then some (Fl.next (δ.set k (.own (ds ++ [d])))) else none | none => none) = _; rw [h2]; dsimp only; rw [if_pos hl, h3]
theorem ev_pop {k : Nat} {ds : List PyData} (hk : δ[k]? = some (.own ds)) (hn : ds ≠ []) (h3 : δ.set k (.own ds.dropLast) = δ') : fPop k δ = some (.next δ') := by
  unfold fPop fMut; rw [hk]; dsimp only; rw [if_neg hn, h3]
theorem ev_put {k : Nat} {f fi : List Sl → M Rz} {x : Rz} {d : PyData} {ds : List PyData} {y : Rz} {i : Int} {j : Nat} (h : f δ = okM x) (hk : δ[k]? = some (.own ds)) (hi : fi δ = okM y) (h2 : datOf x = some d) (hy : y.d? = some (.int i)) (hj : ixN ds.length i = some j) (h3 : δ.set k (.own (ds.set j d)) = δ') : fPut k f fi δ = some (.next δ') := by
  unfold fPut; rw [h]; show fMut k _ δ = _; unfold fMut; rw [hk]; dsimp only; rw [hi]
  show (match datOf x, y.d? with | some d, some (.int i) => (match ixN ds.length i with | some j => some (Fl.next (δ.set k (.own (ds.set j d)))) | none => none) | _, _ => none) = _
  rw [h2, hy]; dsimp only; rw [hj]; dsimp only; rw [h3]
theorem ev_fn {n m : Nat} {f : List Sl → Option Fl} {ds : List PyData} {o : Out} (hl : ds.length = n) (h : f (ds.map Sl.dat ++ List.replicate m Sl.no) = some (.ret o)) : fnD n m f ds = okM o := by unfold fnD; rw [if_pos hl, h]; rfl
theorem ev_fnX {n m : Nat} {f : List Sl → Option Fl} {ds : List PyData} {C : Ex} (hl : ds.length = n) (h : f (ds.map Sl.dat ++ List.replicate m Sl.no) = some (.exc C)) : fnD n m f ds = some (.err C) := by unfold fnD; rw [if_pos hl, h]
theorem ev_for {fi : List Sl → M (List PyData)} {g : PyData → List Sl → Option (List Sl)} {b : List Sl → Option Fl} {items : List PyData} {r : Option Fl} (h1 : fi δ = okM items) (h2 : forN g b items δ = r) : fFor fi g b δ = r := by unfold fFor; rw [h1]; exact h2
/-- a loop by a word on the items behind and ahead -/
theorem forN_inv {g : PyData → List Sl → Option (List Sl)} {b : List Sl → Option Fl} (P : Nat → List Sl → Prop) (items : List PyData) (h0 : P 0 δ)
    (hs : ∀ i d δ, items[i]? = some d → P i δ → ∃ δ1 δ2, g d δ = some δ1 ∧ (b δ1 = some (.next δ2) ∨ b δ1 = some (.cnt δ2)) ∧ P (i + 1) δ2) : ∃ δ', forN g b items δ = some (.next δ') ∧ P items.length δ' := by
  have key : ∀ (rest : List PyData) (i : Nat) (δ : List Sl), items.drop i = rest → i + rest.length = items.length → P i δ → ∃ δ', forN g b rest δ = some (.next δ') ∧ P items.length δ' := by
    intro rest
    induction rest with
    | nil => intro i δ _ hl p; exact ⟨δ, rfl, by simp at hl; rw [← hl]; exact p⟩
    | cons d r ih =>
      intro i δ hd hl p
      have hi : i < items.length := by simp at hl; omega
      rw [List.drop_eq_getElem_cons hi] at hd
      injection hd with hd1 hd2
      obtain ⟨δ1, δ2, e1, e2, p2⟩ := hs i d δ (by rw [List.getElem?_eq_getElem hi, hd1]) p
      obtain ⟨δ', e3, p3⟩ := ih (i + 1) δ2 hd2 (by simp at hl; omega) p2
      refine ⟨δ', ?_, p3⟩
      unfold forN
      rw [e1]
      dsimp only
      rcases e2 with e2 | e2 <;> (rw [e2]; exact e3)
  exact key items 0 δ (by simp) (by simp) h0
/-- a while by a word and a number that falls -/
theorem whN_inv {c : List Sl → M Bool} {b : List Sl → Option Fl} (P : List Sl → Prop) (R : List Sl → Prop) (μ : List Sl → Nat) (hs : ∀ δ, P δ → (c δ = okM false ∧ R δ) ∨ (c δ = okM true ∧ ∃ δ', b δ = some (.next δ') ∧ P δ' ∧ μ δ' < μ δ)) :
    P δ → ∃ δ', fWh c b δ = some (.next δ') ∧ R δ' := by
  have key : ∀ (k : Nat) (δ : List Sl), μ δ < k → P δ → ∃ n δ', whN c b n δ = some (.next δ') ∧ R δ' := by
    intro k
    induction k with
    | zero => intro δ h; exact absurd h (by omega)
    | succ k ih =>
      intro δ h p
      rcases hs δ p with ⟨e, r⟩ | ⟨e, δ1, e1, p1, l⟩
      · exact ⟨1, δ, by unfold whN; rw [e]; rfl, r⟩
      · obtain ⟨n, δ', e2, r⟩ := ih δ1 (by omega) p1
        exact ⟨n + 1, δ', by unfold whN; rw [e]; unfold bS okM; dsimp only; rw [if_pos rfl, e1]; exact e2, r⟩
  intro p
  obtain ⟨n, δ', e, r⟩ := key (μ δ + 1) δ (by omega) p
  exact ⟨δ', @fWh_of ⟨fun _ => 0⟩ _ _ _ _ _ e, r⟩
end
theorem ev_rng1 {δ : List Sl} {fa : List Sl → M (List Rz)} {j : Int} {m : Nat} (h : fa δ = okM [.dat (.int j)]) (h1 : -(2 ^ 62) ≤ j) (h2 : j < 2 ^ 62) (hm : j.toNat = m) : fR rng1 fa δ = okM (rangeL 0 m) := by
  unfold fR; rw [h, bnd_okM]
  show (if -(2 ^ 62) ≤ j ∧ j < 2 ^ 62 then okM (rangeL 0 j.toNat) else none) = _
  rw [if_pos ⟨h1, h2⟩, hm]
theorem ev_rng2 {δ : List Sl} {fa : List Sl → M (List Rz)} {i j : Int} {m : Nat} (h : fa δ = okM [.dat (.int i), .dat (.int j)]) (h0 : -(2 ^ 62) ≤ i ∧ i < 2 ^ 62) (h1 : -(2 ^ 62) ≤ j) (h2 : j < 2 ^ 62) (hm : (j - i).toNat = m) : fR rng2 fa δ = okM (rangeL i m) := by
  unfold fR; rw [h, bnd_okM]
  show (if -(2 ^ 62) ≤ i ∧ i < 2 ^ 62 ∧ -(2 ^ 62) ≤ j ∧ j < 2 ^ 62 then okM (rangeL i (j - i).toNat) else none) = _
  rw [if_pos ⟨h0.1, h0.2, h1, h2⟩, hm]
theorem range_at {lo : Int} {m i : Nat} {d : PyData} (h : (rangeL lo m)[i]? = some d) : i < m ∧ d = .int (lo + (i : Int)) := by
  unfold rangeL at h
  rw [List.getElem?_map] at h
  have hi : i < m := by
    by_cases c : i < m
    · exact c
    · rw [List.getElem?_eq_none (by rw [List.length_range]; omega)] at h; cases h
  rw [List.getElem?_range hi] at h
  cases h
  exact ⟨hi, rfl⟩
theorem range_len (lo : Int) (m : Nat) : (rangeL lo m).length = m := by unfold rangeL; rw [List.length_map, List.length_range]
/-! leaves -/
theorem atD_nat {ds : List PyData} {i : Int} {j : Nat} {d : PyData} (hi : i = (j : Int)) (h : ds[j]? = some d) : L2.atI ds i = some d := by subst hi; exact L2.atI_nat h
theorem ix_tup {ds : List PyData} {i : Int} {j : Nat} {d : PyData} (hi : i = (j : Int)) (h : ds[j]? = some d) : gIx (.dat (.tuple ds)) (.dat (.int i)) = okM (.dat d) := by
  unfold gIx seqOf Rz.d?; dsimp only; rw [atD_nat hi h]; rfl
theorem ix_lst {ds : List PyData} {i : Int} {j : Nat} {d : PyData} (hi : i = (j : Int)) (h : ds[j]? = some d) : gIx (.dat (.list ds)) (.dat (.int i)) = okM (.dat d) := by
  unfold gIx seqOf Rz.d?; dsimp only; rw [atD_nat hi h]; rfl
theorem ix_var {ds : List PyData} {i : Int} {j : Nat} {d : PyData} (hi : i = (j : Int)) (h : ds[j]? = some d) : gIx (.var ds) (.dat (.int i)) = okM (.dat d) := by
  unfold gIx seqOf Rz.d?; dsimp only; rw [atD_nat hi h]; rfl
theorem ix_new {ds : List PyData} {i : Int} {j : Nat} {d : PyData} (hi : i = (j : Int)) (h : ds[j]? = some d) : gIx (.new ds) (.dat (.int i)) = okM (.dat d) := by
  unfold gIx seqOf Rz.d?; dsimp only; rw [atD_nat hi h]; rfl
theorem ix_t0 {p : PyData} {r : List PyData} : gIx (.dat (.tuple (p :: r))) (.dat (.int 0)) = okM (.dat p) := ix_tup (j := 0) rfl rfl
theorem ix_t1 {p q : PyData} {r : List PyData} : gIx (.dat (.tuple (p :: q :: r))) (.dat (.int 1)) = okM (.dat q) := ix_tup (j := 1) rfl rfl
theorem eqv_int (a b : Int) : PyData.eqv (.int a) (.int b) = decide (a = b) := by simp [PyData.eqv, Bool.beq_eq_decide_eq]
theorem gEq_int (a b : Int) : gEq false (.dat (.int a)) (.dat (.int b)) = okM (.dat (.bool (decide (a = b)))) := by
  have o : ∀ x : Int, okD (.int x) = true := fun _ => rfl
  simp only [gEq, Rz.d?, o, and_self, if_true, eqv_int]; rfl
theorem gNe_int (a b : Int) : gEq true (.dat (.int a)) (.dat (.int b)) = okM (.dat (.bool (!decide (a = b)))) := by
  have o : ∀ x : Int, okD (.int x) = true := fun _ => rfl
  simp only [gEq, Rz.d?, o, and_self, if_true, eqv_int]
theorem gMulI {i j : Int} (h : IntMulOk i j) : gI gMul (.dat (.int i)) (.dat (.int j)) = okM (.dat (.int (i * j))) := by unfold gI gMul Rz.d?; dsimp only; rw [if_pos h]
theorem gFdivI {i j : Int} (h : j ≠ 0) (h2 : j.natAbs < 2 ^ 9000) : gI gFdiv (.dat (.int i)) (.dat (.int j)) = okM (.dat (.int (i.fdiv j))) := by unfold gI gFdiv Rz.d?; dsimp only; rw [if_pos ⟨h, h2⟩]
theorem gModI {i j : Int} (h : j ≠ 0) : gI gMod (.dat (.int i)) (.dat (.int j)) = okM (.dat (.int (i.fmod j))) := by unfold gI gMod Rz.d?; dsimp only; rw [if_neg h]
theorem gModP {i j : Int} (h : 0 < j) : gI gMod (.dat (.int i)) (.dat (.int j)) = okM (.dat (.int (i % j))) := by
  rw [gModI (by omega), Int.fmod_eq_emod_of_nonneg _ (by omega)]
theorem gFdivP {i j : Int} (h : 0 < j) (h2 : j < 1073741824) : gI gFdiv (.dat (.int i)) (.dat (.int j)) = okM (.dat (.int (i / j))) := by
  rw [gFdivI (by omega) (Nat.lt_of_lt_of_le (m := 2 ^ 30) (by omega) (Nat.pow_le_pow_right (by decide) (by decide))), Int.fdiv_eq_ediv_of_nonneg _ (by omega)]
theorem mul_l {a b : Int} (h1 : -(2 ^ 64) < a) (h2 : a < 2 ^ 64) : IntMulOk a b := IntMulOk.of_left (intBits_le_64 h1 h2)
theorem mul_r {a b : Int} (h1 : -(2 ^ 64) < b) (h2 : b < 2 ^ 64) : IntMulOk a b := IntMulOk.of_right (intBits_le_64 h1 h2)
end D3

set_option Elab.async false
set_option linter.all false
set_option maxRecDepth 100000
set_option maxHeartbeats 4000000
namespace D3
open PySem PySem.Spec PyProof.Rows L2 L3
variable [Ecx]
section
variable {X : Cx} {E : XK} {K : PySem.W.Frag}
/-! ### a def that is handed a refusal, called anywhere -/
end
end D3

set_option Elab.async false
set_option linter.all false
set_option maxRecDepth 100000
set_option maxHeartbeats 4000000
namespace D3
open PySem PySem.Spec PyProof.Rows L2 L3
variable [Ecx]
section
variable {X : Cx} {E : XK} {K : PySem.W.Frag}
/-! a tuple of things that are only read -/
end
end D3

set_option Elab.async false
set_option linter.all false
set_option maxRecDepth 100000
set_option maxHeartbeats 4000000
/-! l.insert(k, y); a list inside a told tuple that is changed: x = f(..), if ..: return .., x[1].pop() -/
namespace D3
open PySem PySem.Spec PyProof.Rows L2 L3
variable [Ecx]
section
variable {X : Cx} {E : XK} {K : PySem.W.Frag}
def noS : Addr → Bool := fun _ => false
/-! return (e, l): a list of one's own, last -/
/-! l.insert(k, y) -/
end
end D3

set_option Elab.async false
set_option linter.all false
set_option maxRecDepth 100000
set_option maxHeartbeats 4000000
/-! min(l) of a list of whole numbers -/
namespace D3
open PySem PySem.Spec PyProof.Rows L2 L3
variable [Ecx]
section
variable {X : Cx} {E : XK} {K : PySem.W.Frag}
end
end D3

set_option Elab.async false
set_option linter.all false
set_option maxRecDepth 100000
set_option maxHeartbeats 4000000
/-! name = a comprehension with three names -/
namespace D3
open PySem PySem.Spec PyProof.Rows L2 L3
variable [Ecx]
section
variable {X : Cx} {E : XK} {K : PySem.W.Frag}
end
end D3

set_option Elab.async false
set_option linter.all false
set_option maxRecDepth 100000
set_option maxHeartbeats 4000000
/-! name = [f(..) for x in it] where f may refuse at the first of them -/
namespace L3
open PySem PySem.Spec PyProof.Rows L2
section
variable {X : Cx} {E : XK} {N' : List Str} {x : Str} {scope : Scope} {cl : List (Str × Addr)} {wi : TI} {tt : TT} {te : TE} {elt iter : Expr} {ifs : List Expr} {px pos : Pos}
end
end L3
namespace D3
open PySem PySem.Spec PyProof.Rows L2 L3
variable [Ecx]
section
variable {X : Cx} {E : XK} {K : PySem.W.Frag}
end
end D3

set_option Elab.async false
set_option linter.all false
set_option maxRecDepth 100000
set_option maxHeartbeats 4000000
/-! the suite of an except clause, where the handled thing is the one that the clause's name holds; sum of truths there -/
namespace L3
open PySem PySem.Spec PyProof.Rows L2
end L3
namespace D3
open PySem PySem.Spec PyProof.Rows L2 L3
variable [Ecx]
section
variable {X : Cx} {E : XK} {K : PySem.W.Frag}
def tTryJ (K : PySem.W.Frag) (t : TX) (B : Addr) (j : Nat) (ts : Addr → TS) : TS := fun D σ H =>
  t (fun σ' C _ H' => ∃ c, C = .ref c ∧ CatchK K c B ∧
    ∀ ea, H' ea = none → ts ea { nx := fun σ' H2 => D.nx (σ'.set j none) H2, rt := fun _ _ => False } (σ'.set j (some (.ref ea))) (upd H' ea (excO ea (.ref c)))) { nx := D.nx, rt := fun _ _ => False } σ H
def EndJ (K : PySem.W.Frag) (j : Nat) (ea : Addr) (H0 : Hp) (D : Ends) : Fl → Prop
  | .next δ => ∀ σ H S, Loc K H0 σ H δ S → σ[j]? = some (some (.ref ea)) → D.nx σ H
  | _ => False
def RdJ (K : PySem.W.Frag) (j : Nat) (ea : Addr) (t : TS) (f : List Sl → Option Fl) : Prop :=
  ∀ (H0 : Hp) (σ : L2.St) (H : Hp) (δ : List Sl) (S : Addr → Bool) (D : Ends) (fl : Fl), Loc K H0 σ H δ S → σ[j]? = some (some (.ref ea)) → f δ = some fl → EndJ K j ea H0 D fl → t D σ H
def DJs (X : Cx) (j : Nat) (ea : Addr) (st : List Stmt) (f : List Sl → Option Fl) : Prop := ∃ t, PSs X st t ∧ RdJ X.K j ea t f
def RdTJ (K : PySem.W.Frag) (j : Nat) (ea : Addr) (t : TT) (f : List Sl → M Bool) : Prop :=
  ∀ (H0 : Hp) (σ : L2.St) (H : Hp) (δ : List Sl) (S : Addr → Bool) (Q : Bool → Hp → Prop) (r : Res Bool), Loc K H0 σ H δ S → σ[j]? = some (some (.ref ea)) → f δ = some r → EndT E0 H S Q r → t σ H Q
def DTJ (X : Cx) (j : Nat) (ea : Addr) (e : Expr) (f : List Sl → M Bool) : Prop := ∃ t, PT X e t ∧ RdTJ X.K j ea t f
variable {j : Nat} {ea : Addr}
theorem djs_nil : DJs X j ea [] fNext := ⟨_, pss_nil, fun H0 σ H δ S D fl L k h q => by cases h; exact q σ H S L k⟩
theorem dtj_of {e : Expr} {f : List Sl → M Bool} (h : DT X E0 e f) : DTJ X j ea e f := let ⟨t, a, b⟩ := h; ⟨t, a, fun H0 σ H δ S Q r L _ e q => b H0 σ H δ S Q r L e q⟩
theorem djs_set (i : Nat) {x : Str} {e : Expr} {f : List Sl → M Rz} {g : List Sl → Option Fl} {rest : List Stmt} {pos pos' : Pos} (nd : X.N.Nodup) (he : DE X E0 e f) (hr : DJs X j ea rest g) (ij : i ≠ j) (hi : X.N[i]? = some x := by rfl) (hx : L2.Loc X.env.scope x := by first | exact Or.inl rfl | exact Or.inr rfl) (hs : swapsWith e (some (.Name x pos')) pos.line X.env = pure false := by rfl) (hf : X.fn x = true ∨ X.env.scope.names.lookup x = some .local := by first | exact .inl rfl | exact .inr rfl) :
    DJs X j ea (.Assign [.Name x pos'] e pos :: rest) (fSeq (fSet i f) g) := by
  obtain ⟨te, a, b⟩ := he
  obtain ⟨u, c, d⟩ := hr
  refine ⟨_, pss_cons (ps_set nd hi hx a hs hf) c, fun H0 σ H δ S D fl L k h q => ?_⟩
  unfold fSeq at h
  split at h
  · rename_i δ' e1
    rcases bS_inv e1 with ⟨z, h1, e1⟩ | ⟨C, h1, z⟩
    · refine b H0 σ H δ S _ _ L h1 fun v H1 S1 g1 rv => ?_
      split at e1
      · rename_i s e2
        cases e1
        exact d H0 _ H1 _ S1 D fl ((L.ext g1).slot L.owned (L.kids g1) rv e2) (by rw [List.getElem?_set_ne ij]; exact k) h q
      · cases e1
    · cases z
  · rename_i r hr'
    rcases bS_inv h with ⟨z, h1, e1⟩ | ⟨C, h1, z⟩
    · split at e1
      · cases e1; exact absurd h (hr' _)
      · cases e1
    · subst z; exact q.elim
theorem djs_if {c : Expr} {a rest : List Stmt} {fc : List Sl → M Bool} {f g : List Sl → Option Fl} {pos : Pos} (hc : DTJ X j ea c fc) (ha : DJs X j ea a f) (hr : DJs X j ea rest g) : DJs X j ea (.If c a [] pos :: rest) (fSeq (fIfS fc f fNext) g) := by
  obtain ⟨tc, c1, c2⟩ := hc
  obtain ⟨t, a1, a2⟩ := ha
  obtain ⟨u, r1, r2⟩ := hr
  refine ⟨_, pss_cons (ps_if c1 a1 pss_nil) r1, fun H0 σ H δ S D fl L k h q => ?_⟩
  cases ec : fc δ with
  | none => unfold fSeq fIfS at h; rw [ec] at h; cases h
  | some r =>
    cases r with
    | err C => unfold fSeq fIfS at h; rw [ec] at h; cases h; exact q.elim
    | ok b =>
      refine c2 H0 σ H δ S _ _ L k ec fun H1 S1 g1 => ?_
      cases b with
      | true =>
        have h' : fSeq f g δ = some fl := by unfold fSeq fIfS at h; rw [ec] at h; unfold fSeq; exact h
        unfold fSeq at h'
        split at h'
        · rename_i δ' e1
          exact iteT (a2 H0 σ H1 δ S1 _ _ (L.ext g1) k e1 fun σ2 H2 S2 L2 k2 => r2 H0 σ2 H2 δ' S2 D fl L2 k2 h' q)
        · rename_i r hr'
          refine iteT (a2 H0 σ H1 δ S1 _ _ (L.ext g1) k h' ?_)
          cases fl with
          | next δ' => exact absurd h' (hr' δ')
          | _ => exact q.elim
      | false =>
        have h' : g δ = some fl := by unfold fSeq fIfS at h; rw [ec] at h; exact h
        exact iteF (r2 H0 σ H1 δ S1 D fl (L.ext g1) k h' q)
/-- sum(l) == 1 -/
def fSum (k j : Nat) (δ : List Sl) : M Bool := match δ[k]?, δ[j]? with
  | some (.own ds), some (.exc C) => (match blsOf ds with | some bs => if bs.length ≤ 1000 ∧ isFn C = false then okM (decide (cntB bs = 1)) else none | none => none)
  | _, _ => none
theorem dtj_sum (k : Nat) {x : Str} {jj : Nat} {p1 p2 p3 p4 pos : Pos} (hA : X.A.handled = some (.ref ea)) (hm : X.mg "sum" = none) (hN : X.N[k]? = some x := by rfl) (hv : Vis X.env.scope x := by first | exact Or.inl rfl | exact Or.inr (Or.inl rfl) | exact Or.inr (Or.inr rfl)) (hd : (x == ("__debug__" : Str)) = false := by decide) (hcd : (x == ("__classdict__" : Str)) = false := by decide)
    (hg : Gl X "sum" := by rfl) (he : starEach [.Name x p2] X.env = (false, eval (.Name x p2) X.env) :: starEach [] X.env := by rfl) (hpl : (backTo p3 (starEach [] X.env)).any (·.1) = false := by rfl) (hmk : behindInMarks .Eq (.Constant (.int 1) jj p4) = false := by exact nomark _) :
    DTJ X j ea (.Compare (.Call (.Name "sum" p1) [.Name x p2] [] p3) [.Eq] [.Constant (.int 1) jj p4] pos) (fSum k j) := by
  refine ⟨_, pt_cmpR op_eq (pe_callB (call_sum_bl hA) hg hm PyProof.Rows.boot_sum (pa_cons (pe_var hN hv hd hcd) pa_nil he) (by decide) (by decide) he hpl) pe_int hmk, fun H0 σ H δ S Q r L k h q => ?_⟩
  unfold fSum at h
  split at h
  · rename_i ds C e1 e2
    split at h
    · rename_i bs eb
      split at h
      · rename_i hb
        cases h
        obtain ⟨a, xs, o1, o2, o3, o4⟩ := L.own _ ds e1
        rw [blsOf_ok o4 eb] at o3
        obtain ⟨ea', x1, x2⟩ := L.exc j C e2
        rw [k] at x1
        cases x1
        refine ⟨_, o1, a, bs, _, rfl, SqL.of o3, hb.1, hid_up _ _ (x2.real hb.2), rfl, _, rfl, ?_⟩
        have e : decide (V.int (cntB bs) = V.int 1) = decide (cntB bs = 1) := decide_eq_decide.mpr ⟨fun z => V.int.inj z, fun z => by rw [z]⟩
        rw [e]
        exact q H S .refl
      · cases h
    · cases h
  · cases h
/-- try with a body of several statements, the suite linked with what is handled -/
def fTryJ (cs : Ex → Bool) (f : List Sl → Option Xl) (j : Nat) (b : List Sl → Option Fl) (δ : List Sl) : Option Fl :=
  match f δ with
  | some (.next δ') => some (.next δ')
  | some (.exc C δ') => if cs C = true ∧ j < δ'.length then afterH j (b (δ'.set j (.exc C))) else none
  | none => none
theorem ds_tryJ (j : Nat) {n : Nat} {x nm : Str} {sts : List Stmt} {fb : List Sl → Option Xl} {b : List Sl → Option Fl} {cs : Ex → Bool} {B : Addr} {b0 : Stmt} {suite : List Stmt} {np hp pos : Pos} (Z : Fit n X E)
    (hd : DXs X sts fb) (hc : CatchAll X.K B cs) (hm : X.mg x = some (.ref B)) (hb : ∀ ea xe, DJs (L3.Cx.inH X ea xe) j ea (b0 :: suite) b)
    (hst : X.stack = X.env :: X.outer) (hfr : X.env.frame = some X.env.locals) (hj : X.N[j]? = some nm := by rfl) (hl : X.env.kindOf nm = some .local := by rfl)
    (hg : Gl X x := by rfl) (hdb : (x == ("__debug__" : Str)) = false := by decide) :
    DS X E (.Try sts [.ExceptHandler (some (.Name x np)) (some nm) (b0 :: suite) hp] [] [] pos) (fTryJ cs fb j b) := by
  obtain ⟨t, a1, a2⟩ := hd
  have pb : ∀ ea xe, PSs (L3.Cx.inH X ea xe) (b0 :: suite) (fun D σ H => ∃ H0 δ S r, Loc X.K H0 σ H δ S ∧ σ[j]? = some (some (.ref ea)) ∧ b δ = some r ∧ EndJ X.K j ea H0 D r) := fun ea xe pins s σ H D I q => by
    obtain ⟨t', p1, p2⟩ := hb ea xe
    obtain ⟨H0, δ, S, r, L, k, e, q⟩ := q
    exact p1 pins s σ H D I (p2 H0 σ H δ S D r L k e q)
  refine ⟨tTryJ X.K t B j (fun ea D σ H => ∃ H0 δ S r, Loc X.K H0 σ H δ S ∧ σ[j]? = some (some (.ref ea)) ∧ b δ = some r ∧ EndJ X.K j ea H0 D r), ?_, fun H0 σ H δ S D fl L h q => ?_⟩
  · intro pins s σ H D I h
    refine wpAny_Try_except (wpAny_mono (a1 pins s σ H _ _ I h) (fun f s1 z => ?_) fun v s1 z => ?_)
    · cases f with
      | next =>
        obtain ⟨σ', H', I', q⟩ := z
        exact wpAny_execs_nil ⟨σ', H', I', q⟩
      | ret v => obtain ⟨_, _, _, _, _, z⟩ := z; exact False.elim z
      | brk => obtain ⟨_, _, _, z⟩ := z; exact False.elim z
      | cont => obtain ⟨_, _, _, z⟩ := z; exact False.elim z
    · obtain ⟨σ', z⟩ := z
      exact caught_ok pb Z.nd hj hl hg hm hst hfr hdb (fun C H' q => q) z
  unfold fTryJ at h
  split at h
  · rename_i δ' e
    cases h
    exact a2 H0 σ H δ S _ _ _ L e fun σ' H' S' L' => q σ' H' S' L'
  · rename_i C δ' e
    split at h
    · rename_i hcs
      refine a2 H0 σ H δ S _ _ _ L e fun σ' H' S' L1 => ⟨_, rfl, (hc C hcs.1).1, fun ea he => ?_⟩
      have g2 : Ext H' S' (upd H' ea (excO ea (.ref (ecx C)))) S' := Ext.same (same_new he _)
      have L2 := (L1.ext g2).put (i := j) (o := some (.ref ea)) (s := .exc C) (fun _ z => nomatch z) (fun _ z => nomatch z) (fun C' e => by cases e; exact ⟨ea, rfl, .inl ⟨(hc C hcs.1).2, same_upd_hid L1.lst he⟩⟩)
      unfold afterH at h
      split at h
      · rename_i δ'' e3
        cases h
        refine ⟨H0, _, S', _, L2, ?_, e3, fun σ' H3 S3 L3 _ => q _ H3 S3 (L3.put (fun _ z => nomatch z) (fun _ z => nomatch z) (fun _ z => nomatch z))⟩
        exact List.getElem?_set_self (by rw [L1.len]; exact hcs.2)
      · cases h
    · cases h
  · cases h
end
end D3

set_option Elab.async false
set_option linter.all false
set_option maxRecDepth 100000
set_option maxHeartbeats 4000000
/-! a dict of whole numbers that is filled within a loop, then sorted(list(d)) -/
namespace D3
open PySem PySem.Spec PyProof.Rows L2 L3
variable [Ecx]
section
variable {X : Cx} {E : XK} {K : PySem.W.Frag}
def er (G : Hp) (p : Addr) : Hp := fun b => if b = p then none else G b
theorem er_ne {G : Hp} {p b : Addr} (h : b ≠ p) : er G p b = G b := by unfold er; rw [if_neg h]
theorem er_same {G : Hp} {p : Addr} : er G p p = none := by unfold er; rw [if_pos rfl]
theorem er_up {G : Hp} {p : Addr} : Same (er G p) G := fun b o h => by
  by_cases c : b = p
  · subst c; rw [er_same] at h; cases h
  · rwa [er_ne c] at h
theorem er_get {G : Hp} {p b : Addr} {o : HO} {kvs : List (Key × V)} (hp : G p = some (.dK kvs)) (h : G b = some o) (hn : o ≠ .dK kvs) : er G p b = some o := by
  rw [er_ne (fun z => by subst z; rw [hp] at h; exact hn (Option.some.inj h).symm)]; exact h
theorem sqT_er {G : Hp} {p a : Addr} {xs : List V} {kvs : List (Key × V)} (hp : G p = some (.dK kvs)) (h : SqT K G a xs) : SqT K (er G p) a xs := by
  rcases h with (h | ⟨o, h⟩) | h
  · exact .inl (.inl (er_get hp h (fun z => nomatch z)))
  · exact .inl (.inr ⟨o, er_get hp h (fun z => nomatch z)⟩)
  · exact .inr h
theorem sqL_er {G : Hp} {p a : Addr} {xs : List V} {kvs : List (Key × V)} (hp : G p = some (.dK kvs)) (h : SqL K G a xs) : SqL K (er G p) a xs := by
  rcases h with (h | ⟨o, h⟩) | h
  · exact .inl (.inl (er_get hp h (fun z => nomatch z)))
  · exact .inl (.inr ⟨o, er_get hp h (fun z => nomatch z)⟩)
  · exact .inr h
theorem dv_er {G : Hp} {p : Addr} {kvs : List (Key × V)} (hp : G p = some (.dK kvs)) {v : V} {d : PyData} (h : DV K G v d) : DV K (er G p) v d :=
  DV.rec (motive_1 := fun v d _ => DV K (er G p) v d) (motive_2 := fun vs ds _ => DVs K (er G p) vs ds) .non .bl .int .str (fun h _ r => .tup (sqT_er hp h) r) (fun h _ r => .lst (sqL_er hp h) r) .nil (fun _ _ a b => .cons a b) h
theorem dvs_er {G : Hp} {p : Addr} {kvs : List (Key × V)} (hp : G p = some (.dK kvs)) {vs : List V} {ds : List PyData} (h : DVs K G vs ds) : DVs K (er G p) vs ds :=
  DVs.rec (motive_1 := fun v d _ => DV K (er G p) v d) (motive_2 := fun vs ds _ => DVs K (er G p) vs ds) .non .bl .int .str (fun h _ r => .tup (sqT_er hp h) r) (fun h _ r => .lst (sqL_er hp h) r) .nil (fun _ _ a b => .cons a b) h
theorem Loc.noS {H0 H : Hp} {σ : L2.St} {δ : List Sl} {S : Addr → Bool} {p : Addr} {kvs : List (Key × V)} (L : Loc K H0 σ H δ S) (hp : H p = some (.dK kvs)) : S p = false := by
  cases e : S p with
  | false => rfl
  | true => obtain ⟨xs, h⟩ := L.lst p e; rw [hp] at h; cases h
/-- the dict is changed -/
theorem Loc.dic {H0 H : Hp} {σ : L2.St} {δ : List Sl} {S : Addr → Bool} {p : Addr} {kvs kvs' : List (Key × V)} (L : Loc K H0 σ H δ S) (hp : H p = some (.dK kvs)) (h0 : H0 p = none) : Loc K H0 σ (upd H p (.dK kvs')) δ S := by
  have sp := L.noS hp
  have hp' : hid H S p = some (.dK kvs) := by rw [hid_f sp]; exact hp
  have ge : ∀ b, b ≠ p → hid (upd H p (.dK kvs')) S b = hid H S b := fun b h => by
    by_cases c : S b = true
    · rw [hid_t c, hid_t c]
    · rw [hid_f (by simpa using c), hid_f (by simpa using c), upd_ne h]
  have g : Same (er (hid H S) p) (hid (upd H p (.dK kvs')) S) := fun b o h => by
    by_cases c : b = p
    · subst c; rw [er_same] at h; cases h
    · rw [ge b c]; rwa [er_ne c] at h
  have ne : ∀ {b : Addr} {o : HO}, H b = some o → (∀ l, o ≠ .dK l) → upd H p (.dK kvs') b = some o := fun {b o} h hn => by
    rw [upd_ne (fun z => by subst z; rw [hp] at h; exact hn _ (Option.some.inj h).symm)]; exact h
  have nh : ∀ {b : Addr} {o : HO}, hid H S b = some o → (∀ l, o ≠ .dK l) → hid (upd H p (.dK kvs')) S b = some o := fun {b o} h hn => by
    rw [ge b (fun z => by subst z; rw [hp'] at h; exact hn _ (Option.some.inj h).symm)]; exact h
  have kb : ∀ {i : Nat} {a : Addr}, Kid (hid (upd H p (.dK kvs')) S) σ δ i a → Kid (hid H S) σ δ i a := fun ⟨o, c, x, y, e1, e2, e3, e4⟩ => by
    by_cases q : c = p
    · subst q; rw [hid_f sp, upd_same] at e3; cases e3
    · rw [ge c q] at e3; exact ⟨o, c, x, y, e1, e2, e3, e4⟩
  refine ⟨fun b o h => ?_, L.frs, fun b h => ?_, L.len, fun i d e => ?_, fun i C e => ?_, fun i ds e => ?_, L.one, fun i o e => ?_, fun i j ds a k => L.sep i j ds a (kb k), fun i j a k k' => L.sop i j a (kb k) (kb k')⟩
  · rw [upd_ne (fun z => by subst z; rw [h0] at h; cases h)]; exact L.old b o h
  · obtain ⟨xs, e⟩ := L.lst b h
    exact ⟨xs, ne e (fun _ z => nomatch z)⟩
  · obtain ⟨v, e1, e2⟩ := L.dat i d e
    exact ⟨v, e1, DV.same g (dv_er hp' e2)⟩
  · obtain ⟨ea, e1, e2⟩ := L.exc i C e
    refine ⟨ea, e1, ?_⟩
    rcases e2 with ⟨a, b⟩ | h
    · exact .inl ⟨a, nh b (fun _ z => nomatch z)⟩
    · exact .inr h
  · obtain ⟨a, xs, e1, e2, e3, e4⟩ := L.own i ds e
    exact ⟨a, xs, e1, e2, ne e3 (fun _ z => nomatch z), DVs.same g (dvs_er hp' e4)⟩
  · obtain ⟨c, a, b, xs, ys, q1, q2, q3, q4, q5, q6, q7⟩ := L.two i o e
    exact ⟨c, a, b, xs, ys, q1, nh q2 (fun _ z => nomatch z), q3, q4, ne q5 (fun _ z => nomatch z), ne q6 (fun _ z => nomatch z), fun ds es z => ⟨DVs.same g (dvs_er hp' (q7 ds es z).1), DVs.same g (dvs_er hp' (q7 ds es z).2)⟩⟩
theorem Loc.gr {H0 Hg H : Hp} {σ : L2.St} {δ : List Sl} {S : Addr → Bool} (L : Loc K H0 σ H δ S) (a : Same Hg H) (b : ∀ c, S c = true → Hg c = none) : Loc K Hg σ H δ S := ⟨a, b, L.lst, L.len, L.dat, L.exc, L.own, L.one, L.two, L.sep, L.sop⟩
/-! its keys -/
def KsOf (kvs : List (Key × V)) (ks : List Int) : Prop := kvs.map (·.1) = ks.map Sum.inl
def putI (ks : List Int) (k : Int) : List Int := if k ∈ ks then ks else ks ++ [k]
theorem ks_put {kvs : List (Key × V)} {ks : List Int} (h : KsOf kvs ks) (k : Int) (v : V) : KsOf (putK kvs (Sum.inl k) v) (putI ks k) := by
  unfold KsOf at h
  have ha : (kvs.any fun kv => decide (kv.1 = (Sum.inl k : Key))) = decide (k ∈ ks) := by
    have e1 : (kvs.any fun kv => decide (kv.1 = (Sum.inl k : Key))) = (kvs.map (·.1)).any fun x => decide (x = (Sum.inl k : Key)) := by rw [List.any_map]; rfl
    rw [e1, h, List.any_map]
    by_cases c : k ∈ ks
    · rw [decide_eq_true c, List.any_eq_true]
      exact ⟨k, c, by simp⟩
    · rw [decide_eq_false c, List.any_eq_false]
      intro x hx
      simp only [Function.comp, decide_eq_true_eq]
      intro z
      injection z with z
      exact c (z ▸ hx)
  unfold KsOf putK putI
  rw [ha]
  by_cases c : k ∈ ks
  · rw [if_pos (decide_eq_true c), if_pos c, List.map_map, ← h]
    refine List.map_congr_left fun kv _ => ?_
    simp only [Function.comp]
    split <;> rfl
  · rw [if_neg (by rw [decide_eq_false c]; decide), if_neg c, List.map_append, List.map_append, h]; rfl
theorem ks_len {kvs : List (Key × V)} {ks : List Int} (h : KsOf kvs ks) : kvs.length = ks.length := by
  have := congrArg List.length h
  rwa [List.length_map, List.length_map] at this
theorem ks_vals {kvs : List (Key × V)} {ks : List Int} (h : KsOf kvs ks) : (kvs.map fun kv => kV kv.1) = ks.map V.int := by
  have e : (kvs.map fun kv => kV kv.1) = (kvs.map (·.1)).map kV := by rw [List.map_map]; rfl
  rw [e, h, List.map_map]; rfl
/-- ks in their order -/
def insI (k : Int) : List Int → List Int
  | [] => [k]
  | a :: r => if k ≤ a then k :: a :: r else a :: insI k r
def srtI : List Int → List Int
  | [] => []
  | a :: r => insI a (srtI r)
theorem insI_perm (k : Int) : ∀ l, (insI k l).Perm (k :: l)
  | [] => .refl _
  | a :: r => by
    unfold insI
    split
    · exact .refl _
    · exact ((insI_perm k r).cons a).trans (.swap k a r)
theorem srtI_perm : ∀ l, (srtI l).Perm l
  | [] => .refl _
  | a :: r => (insI_perm a _).trans ((srtI_perm r).cons a)
theorem insI_sorted (k : Int) : ∀ l : List Int, l.Pairwise (· ≤ ·) → (insI k l).Pairwise (· ≤ ·)
  | [], _ => by unfold insI; exact List.pairwise_singleton _ _
  | a :: r, h => by
    have h1 := List.pairwise_cons.mp h
    unfold insI
    split
    · rename_i hk
      refine List.pairwise_cons.mpr ⟨fun b hb => ?_, h⟩
      rcases List.mem_cons.mp hb with rfl | hb
      · exact hk
      · exact Int.le_trans hk (h1.1 b hb)
    · rename_i hk
      refine List.pairwise_cons.mpr ⟨fun b hb => ?_, insI_sorted k r h1.2⟩
      rcases List.mem_cons.mp ((insI_perm k r).mem_iff.mp hb) with rfl | hb
      · omega
      · exact h1.1 b hb
theorem srtI_sorted : ∀ l : List Int, (srtI l).Pairwise (· ≤ ·)
  | [] => .nil
  | a :: r => insI_sorted a _ (srtI_sorted r)
theorem srt_eq : ∀ {l m : List Int}, l.Perm m → l.Pairwise (· ≤ ·) → m.Pairwise (· ≤ ·) → l = m
  | [], m, h, _, _ => (List.nil_perm.mp h).symm
  | a :: r, [], h, _, _ => absurd h.length_eq (by simp)
  | a :: r, b :: s, h, h1, h2 => by
    have p1 := List.pairwise_cons.mp h1
    have p2 := List.pairwise_cons.mp h2
    have e : a = b := by
      have m1 : b ∈ a :: r := h.mem_iff.mpr (.head _)
      have m2 : a ∈ b :: s := h.mem_iff.mp (.head _)
      rcases List.mem_cons.mp m1 with z | z
      · exact z.symm
      · rcases List.mem_cons.mp m2 with y | y
        · exact y
        · exact Int.le_antisymm (p1.1 b z) (p2.1 a y)
    subst e
    rw [srt_eq (List.Perm.cons_inv h) p1.2 p2.2]
/-! the body: d[e] = True -/
def dicB : List (List Sl → M Rz) → List Sl → List Int → Option (List Int)
  | [], _, ks => some ks
  | f :: r, δ, ks => match f δ with
    | some (.ok z) => (match z.d? with | some (.int i) => if ks.length < 60 then dicB r δ (putI ks i) else none | _ => none)
    | _ => none
def RdB (K : PySem.W.Frag) (k : Nat) (t : TS) (fes : List (List Sl → M Rz)) : Prop :=
  ∀ (H0 : Hp) (σ : L2.St) (H : Hp) (δ : List Sl) (S : Addr → Bool) (p : Addr) (kvs : List (Key × V)) (ks ks' : List Int) (D : Ends), Loc K H0 σ H δ S → σ[k]? = some (some (.ref p)) → H p = some (.dK kvs) → H0 p = none → KsOf kvs ks → dicB fes δ ks = some ks' →
    (∀ H' S' kvs', Loc K H0 σ H' δ S' → H' p = some (.dK kvs') → KsOf kvs' ks' → D.nx σ H') → t D σ H
def DBs (X : Cx) (k : Nat) (st : List Stmt) (fes : List (List Sl → M Rz)) : Prop := ∃ t, PSs X st t ∧ RdB X.K k t fes
theorem dbs_nil {k : Nat} : DBs X k [] [] := ⟨_, pss_nil, fun H0 σ H δ S p kvs ks ks' D L _ hp _ hk h q => by cases h; exact q H S kvs L hp hk⟩
theorem dbs_cons (k : Nat) {n : Nat} {x : Str} {e : Expr} {f : List Sl → M Rz} {rest : List Stmt} {fes : List (List Sl → M Rz)} {npos spos pos bpos : Pos} {j : Nat} (Z : Fit n X E) (he : DE X E e f) (hr : DBs X k rest fes)
    (hN : X.N[k]? = some x := by rfl) (hv : Vis X.env.scope x := by first | exact Or.inl rfl | exact Or.inr (Or.inl rfl) | exact Or.inr (Or.inr rfl)) (hd : (x == ("__debug__" : Str)) = false := by decide) (hcd : (x == ("__classdict__" : Str)) = false := by decide)
    (hs : swapsWith (.Constant (.bool true) j bpos) (some (.Subscript (.Name x npos) e spos)) pos.line X.env = pure false := by rfl) :
    DBs X k (.Assign [.Subscript (.Name x npos) e spos] (.Constant (.bool true) j bpos) pos :: rest) (f :: fes) := by
  obtain ⟨t, a, b⟩ := he
  obtain ⟨u, c, d⟩ := hr
  refine ⟨_, pss_cons (ps_dput (by have := Z.rm.un; omega) (pe_var hN hv hd hcd) a pe_bl hs) c, fun H0 σ H δ S p kvs ks ks' D L hk hp h0 hK h q => ?_⟩
  unfold dicB at h
  split at h
  · rename_i z e1
    split at h
    · rename_i i e2
      split at h
      · rename_i hl
        refine ⟨_, hk, b H0 σ H δ S _ _ L e1 fun v H1 S1 g1 rv => ?_⟩
        have L1 := L.ext g1
        have hp1 := g1.up _ _ hp
        have hv : v = kV (Sum.inl i) := by
          have := rv.full e2
          cases this; rfl
        have hlen := ks_len hK
        have sl : (sizeLine : Nat) = 16777216 := rfl
        refine ⟨p, _, rfl, by rw [hv]; exact DPut.k hp1 (by omega), ?_⟩
        exact d H0 σ _ δ S1 p _ _ ks' D (L1.dic hp1 h0) hk upd_same h0 (ks_put hK i _) h q
      · cases h
    · cases h
  · cases h
end
end D3

set_option Elab.async false
set_option linter.all false
set_option maxRecDepth 100000
set_option maxHeartbeats 4000000
/-! the loop that fills a dict, what goes ahead and what follows -/
namespace D3
open PySem PySem.Spec PyProof.Rows L2 L3
variable [Ecx]
section
variable {X : Cx} {E : XK} {K : PySem.W.Frag}
/-! targets that leave the slot k alone -/
def RdGk (K : PySem.W.Frag) (k : Nat) (t : TG) (g : PyData → List Sl → Option (List Sl)) : Prop :=
  ∀ (H0 : Hp) (σ : L2.St) (H : Hp) (δ δ' : List Sl) (S : Addr → Bool) (v : V) (d : PyData) (Q : L2.St → Hp → Prop), Loc K H0 σ H δ S → DV K (hid H S) v d → g d δ = some δ' → (∀ σ', Loc K H0 σ' H δ' S → σ'[k]? = σ[k]? → Q σ' H) → t v σ H Q
def DGk (X : Cx) (k : Nat) (tg : Expr) (g : PyData → List Sl → Option (List Sl)) : Prop := ∃ t, PG X tg t ∧ RdGk X.K k t g
theorem dgk_name {k : Nat} (i : Nat) {x : Str} {pos : Pos} (nd : X.N.Nodup) (hik : i ≠ k := by decide) (hi : X.N[i]? = some x := by rfl) (hx : L2.Loc X.env.scope x := by first | exact Or.inl rfl | exact Or.inr rfl) (hf : X.fn x = true ∨ X.env.scope.names.lookup x = some .local := by first | exact .inl rfl | exact .inr rfl) : DGk X k (.Name x pos) (tName i) :=
  ⟨_, pg_name nd hi hx hf, fun H0 σ H δ δ' S v d Q L dv h q => by
    cases h
    exact q _ (L.put (fun _ z => nomatch z) (fun d' e => by cases e; exact ⟨v, rfl, dv⟩) (fun _ z => nomatch z)) (List.getElem?_set_ne hik)⟩
def RdGsk (K : PySem.W.Frag) (k : Nat) (t : TGs) (g : List PyData → List Sl → Option (List Sl)) : Prop :=
  ∀ (H0 : Hp) (σ : L2.St) (H : Hp) (δ δ' : List Sl) (S : Addr → Bool) (vs : List V) (ds : List PyData) (Q : L2.St → Hp → Prop), Loc K H0 σ H δ S → DVs K (hid H S) vs ds → g ds δ = some δ' → (∀ σ', Loc K H0 σ' H δ' S → σ'[k]? = σ[k]? → Q σ' H) → t vs σ H Q
def DGsk (X : Cx) (k : Nat) (tg : List Expr) (g : List PyData → List Sl → Option (List Sl)) : Prop := ∃ t, PGs X tg t ∧ RdGsk X.K k t g
theorem dgsk_nil {k : Nat} : DGsk X k [] tsNil := ⟨_, pgs_nil, fun H0 σ H δ δ' S vs ds Q L dv h q => by
    unfold tsNil at h
    split at h
    · cases h
      cases dv
      exact ⟨rfl, q σ L rfl⟩
    · cases h⟩
theorem dgsk_cons {k : Nat} {e : Expr} {es : List Expr} {g : PyData → List Sl → Option (List Sl)} {h : List PyData → List Sl → Option (List Sl)} (h1 : DGk X k e g) (h2 : DGsk X k es h)
    (hs : (assignEach (e :: es) X.env).map (·.2) = assign e X.env :: (assignEach es X.env).map (·.2) := by rfl) : DGsk X k (e :: es) (tsCons g h) := by
  obtain ⟨t, a, b⟩ := h1
  obtain ⟨u, c, d⟩ := h2
  refine ⟨_, pgs_cons a c hs, fun H0 σ H δ δ' S vs ds Q L dv h q => ?_⟩
  unfold tsCons at h
  split at h
  · split at h
    · rename_i δ1 e1
      cases dv with
      | cons x y => exact ⟨_, _, rfl, b H0 σ H δ δ1 S _ _ _ L x e1 fun σ1 L1 k1 => d H0 σ1 H δ1 δ' S _ _ _ L1 y h fun σ2 L2 k2 => q σ2 L2 (k2.trans k1)⟩
    · cases h
  · cases h
theorem dgk_tup {j : Nat} {es : List Expr} {kk : Nat} {g : List PyData → List Sl → Option (List Sl)} {k n : Nat} {pos : Pos} (Z : Fit n X E) (h : DGsk X j es g) (hn : (assignEach es X.env).length = k := by rfl) (hst : (assignEach es X.env).findIdx? (·.1) = none := by rfl) : DGk X j (.Tuple es kk pos) (tTupT g k) := by
  obtain ⟨t, a, b⟩ := h
  refine ⟨_, pg_tup Z.cm a hn hst, fun H0 σ H δ δ' S v d Q L dv h q => ?_⟩
  unfold tTupT at h
  split at h
  · rename_i ds
    split at h
    · rename_i hl
      cases dv with
      | tup hs hx => exact ⟨_, _, rfl, SameT hid_up hs, by rw [DVs.len hx]; exact hl, b H0 σ H δ δ' S _ _ _ L hx h q⟩
    · cases h
  · cases h
/-! what is walked, while a dict stands by -/
def RdIk (K : PySem.W.Frag) (wi : TI) (f : List Sl → M (List PyData)) : Prop :=
  ∀ (H0 : Hp) (σ : L2.St) (H : Hp) (δ : List Sl) (S : Addr → Bool) (p : Addr) (kvs : List (Key × V)) (R : It → Hp → Prop) (items : List PyData), Loc K H0 σ H δ S → H p = some (.dK kvs) → f δ = okM items →
    (∀ J H' S', Ext H S H' S' → ItOk K J (er (hid H' S') p) items → R J H') → wi σ H R
def DIk (X : Cx) (tg iter : Expr) (f : List Sl → M (List PyData)) : Prop := ∃ wi, PI X tg iter wi ∧ RdIk X.K wi f
theorem dik_list {tg e : Expr} {f : List Sl → M Rz} (h : DE X E e f) : DIk X tg e (fI itemsL f) := by
  obtain ⟨t, a, b⟩ := h
  refine ⟨_, pi_list a, fun H0 σ H δ S p kvs R items L hp h q => ?_⟩
  rcases bnd_inv h with ⟨x, h1, h⟩ | ⟨C, h1, h⟩
  · refine b H0 σ H δ S _ _ L h1 fun v H1 S1 g1 rv => ?_
    have dh : ∀ S', Ext H S H1 S' → hid H1 S' p = some (.dK kvs) := fun S' g => by
      have hp1 := g.up _ _ hp
      rw [hid_f ((L.ext g).noS hp1)]; exact hp1
    unfold itemsL at h
    split at h
    · rename_i ds
      cases h
      have rv' : DV X.K (hid H1 S1) v (.list items) := rv
      cases rv' with
      | lst hs hx => exact ⟨_, rfl, ⟨_, hid_up.seq hs⟩, q _ H1 S1 g1 (it_list (sqL_er (dh _ g1) hs) (dvs_er (dh _ g1) hx))⟩
    · rename_i ds
      cases h
      obtain ⟨c, xs, rfl, z, n, hl, hx⟩ := rv
      have sc : S c = false := by
        cases e : S c with
        | false => rfl
        | true => obtain ⟨ys, w⟩ := L.lst c e; rw [n] at w; cases w
      exact ⟨c, rfl, ⟨xs, SqL.of hl⟩, q _ H1 (D3.del S1 c) (g1.del sc) (it_list (sqL_er (dh _ (g1.del sc)) (SqL.of (by rw [hid_f del_same]; exact hl))) (dvs_er (dh _ (g1.del sc)) (DVs.same same_del hx)))⟩
    · cases h
  · cases h
theorem dik_range1 {tg a : Expr} {p pos : Pos} {f : List Sl → M (List Rz)} (hm : X.mg "range" = none) (ha : DA X E [a] f) (hg : Gl X "range" := by rfl) (hs : starEach [a] X.env = [(false, eval a X.env)] := by rfl) : DIk X tg (.Call (.Name "range" p) [a] [] pos) (fR rng1 f) := by
  obtain ⟨t, a1, b⟩ := ha
  refine ⟨_, pi_range1 hg hm a1 hs, fun H0 σ H δ S p kvs R items L hp h q => ?_⟩
  rcases bnd_inv h with ⟨zs, h1, h⟩ | ⟨C, h1, h⟩
  · refine b H0 σ H δ S _ _ L h1 fun vs H1 S1 g1 rs => ?_
    unfold rng1 at h
    split at h
    · rename_i j e
      split at h
      · rename_i hc
        cases h
        have hx := dsOf_ok rs e
        cases hx with
        | cons x y => cases x; cases y; exact ⟨j, rfl, hc.1, hc.2, q _ H1 S1 g1 (it_range 0 _)⟩
      · cases h
    · cases h
  · cases h
/-! a new dict -/
def DN (X : Cx) (e : Expr) (ks : List Int) : Prop := ∃ t, PE X e t ∧ ∀ σ H Q, (∀ p kvs, H p = none → KsOf kvs ks → Q (V.ref p) (upd H p (.dK kvs))) → t σ H Q
theorem dn_nil {pos : Pos} : DN X (.Dict [] [] pos) [] := ⟨_, pe_dnewK, fun σ H Q q p hp => q p [] hp rfl⟩
theorem dn_two {i j : Int} {a1 a2 a3 a4 : Nat} {p1 p2 p3 p4 pos : Pos} (hij : i ≠ j := by decide) : DN X (.Dict [some (.Constant (.int i) a1 p1), some (.Constant (.int j) a2 p2)] [.Constant (.bool true) a3 p3, .Constant (.bool true) a4 p4] pos) [i, j] := by
  refine ⟨_, pe_disp (pps_cons pe_int pe_bl (pps_cons pe_int pe_bl pps_nil)) rfl rfl (fun z => nomatch z) (by show 2 ≤ 15; decide), fun σ H Q q p hp => ⟨upd_same, [(Sum.inl i, .bl true), (Sum.inl j, .bl true)], rfl, by show 2 ≤ 15; decide, ?_⟩⟩
  rw [upd_upd]
  refine q p _ hp ?_
  have h1 : KsOf (putK [] (Sum.inl i) (.bl true)) [i] := ks_put (kvs := []) (ks := []) rfl i _
  have h2 := ks_put h1 j (.bl true)
  have e : putI [i] j = [i, j] := by unfold putI; rw [if_neg (by rw [List.mem_singleton]; exact fun z => hij z.symm)]; rfl
  rw [e] at h2
  exact h2
/-! the whole -/
def dicN (g : PyData → List Sl → Option (List Sl)) (fes : List (List Sl → M Rz)) : List PyData → List Sl → List Int → Option (List Sl × List Int)
  | [], δ, ks => some (δ, ks)
  | d :: r, δ, ks => match g d δ with
    | none => none
    | some δ1 => (match dicB fes δ1 ks with
      | some ks1 => dicN g fes r δ1 ks1
      | none => none)
def fDic (k m : Nat) (ks0 : List Int) (fi : List Sl → M (List PyData)) (g : PyData → List Sl → Option (List Sl)) (fes : List (List Sl → M Rz)) (δ : List Sl) : Option Fl :=
  if k < δ.length then match fi (δ.set k .no) with
  | some (.ok items) => (match dicN g fes items (δ.set k .no) ks0 with
    | some (δ1, ks) => if ks.length < 64 then some (.next (δ1.set m (.own ((srtI ks).map PyData.int)))) else none
    | none => none)
  | _ => none else none
theorem dss_dic (k m : Nat) {n : Nat} {x y : Str} {de tg iter : Expr} {body rest : List Stmt} {ks0 : List Int} {fi : List Sl → M (List PyData)} {g : PyData → List Sl → Option (List Sl)} {fes : List (List Sl → M Rz)} {f : List Sl → Option Fl}
    {p1 p2 p3 p4 p5 p6 p7 p8 p9 p10 : Pos} (Z : Fit n X E) (hde : DN X de ks0) (hi : DIk X tg iter fi) (hg : DGk X k tg g) (hb : DBs X k body fes) (hr : DSs X E rest f) (hml : X.mg "list" = none) (hms : X.mg "sorted" = none)
    (hN : X.N[k]? = some x := by rfl) (hM : X.N[m]? = some y := by rfl) (hlx : L2.Loc X.env.scope x := by first | exact Or.inl rfl | exact Or.inr rfl) (hly : L2.Loc X.env.scope y := by first | exact Or.inl rfl | exact Or.inr rfl)
    (hv : Vis X.env.scope x := by first | exact Or.inl rfl | exact Or.inr (Or.inl rfl) | exact Or.inr (Or.inr rfl)) (hd : (x == ("__debug__" : Str)) = false := by decide) (hcd : (x == ("__classdict__" : Str)) = false := by decide)
    (hs1 : swapsWith de (some (.Name x p1)) p2.line X.env = pure false := by rfl) (hf1 : X.fn x = true ∨ X.env.scope.names.lookup x = some .local := by first | exact .inl rfl | exact .inr rfl) (hf2 : X.fn y = true ∨ X.env.scope.names.lookup y = some .local := by first | exact .inl rfl | exact .inr rfl)
    (hs2 : ∀ x, foldedSetIterable iter X.env x = pure x := by intro _; rfl)
    (hs3 : swapsWith (.Call (.Name "sorted" p6) [.Call (.Name "list" p7) [.Name x p8] [] p9] [] p10) (some (.Name y p4)) p5.line X.env = pure false := by rfl)
    (hgl : Gl X "list" := by rfl) (hgs : Gl X "sorted" := by rfl)
    (hst : starEach [Expr.Name x p8] X.env = (false, eval (.Name x p8) X.env) :: starEach [] X.env := by rfl)
    (hst2 : starEach [Expr.Call (.Name "list" p7) [.Name x p8] [] p9] X.env = (false, eval (.Call (.Name "list" p7) [.Name x p8] [] p9) X.env) :: starEach [] X.env := by rfl)
    (hpl : (backTo p9 (starEach [] X.env)).any (·.1) = false := by rfl) (hpl2 : (backTo p10 (starEach [] X.env)).any (·.1) = false := by rfl) :
    DSs X E (.Assign [.Name x p1] de p2 :: .For tg iter body [] p3 :: .Assign [.Name y p4] (.Call (.Name "sorted" p6) [.Call (.Name "list" p7) [.Name x p8] [] p9] [] p10) p5 :: rest) (fSeq (fDic k m ks0 fi g fes) f) := by
  obtain ⟨td, d1, d2⟩ := hde
  obtain ⟨wi, i1, i2⟩ := hi
  obtain ⟨tg', g1, g2⟩ := hg
  obtain ⟨tb, b1, b2⟩ := hb
  obtain ⟨tr, r1, r2⟩ := hr
  refine ⟨_, pss_cons (ps_set Z.nd hN hlx d1 hs1 hf1) (pss_cons (ps_for Z.po Z.cm i1 g1 b1 hs2) (pss_cons (ps_set Z.nd hM hly (pe_callB call_sortI hgs hms PyProof.Rows.boot_sorted (pa_cons (pe_callTy (call_listD Z.rm.hd) hgl hml PyProof.Rows.boot_list (pa_cons (pe_var hN hv hd hcd) pa_nil hst) (he := hst) (hpl := hpl)) pa_nil hst2) (he := hst2) (hpl := hpl2)) hs3 hf2) r1)), fun H0 σ H δ S D fl L h q => ?_⟩
  unfold fSeq at h
  have hF : ∃ δ', fDic k m ks0 fi g fes δ = some (.next δ') ∧ f δ' = some fl := by
    cases e : fDic k m ks0 fi g fes δ with
    | none => rw [e] at h; cases h
    | some r =>
      have hn : ∃ δ', r = .next δ' := by
        unfold fDic at e
        split at e
        · split at e
          · split at e
            · split at e
              · exact ⟨_, (Option.some.inj e).symm⟩
              · cases e
            · cases e
          · cases e
        · cases e
      obtain ⟨δ', rfl⟩ := hn
      rw [e] at h
      exact ⟨δ', rfl, h⟩
  obtain ⟨δ', h1, h2⟩ := hF
  unfold fDic at h1
  split at h1
  case isFalse => cases h1
  rename_i hkl
  split at h1
  · rename_i items e1
    split at h1
    · rename_i δ1 ks e2
      split at h1
      · rename_i h64
        cases h1
        refine d2 σ H _ fun p kvs hp hK => ?_
        have h0 : H0 p = none := L.old.free hp
        have La : Loc X.K H0 (σ.set k (some (.ref p))) (upd H p (.dK kvs)) (δ.set k .no) S := (L.ext (Ext.same (same_new hp _))).put (fun _ z => nomatch z) (fun _ z => nomatch z) (fun _ z => nomatch z)
        have kl : k < σ.length := by rw [L.len]; exact hkl
        have hk0 : (σ.set k (some (.ref p)))[k]? = some (some (.ref p)) := List.getElem?_set_self kl
        refine i2 H0 _ _ _ S p kvs _ items La upd_same e1 fun J H1 S1 x1 it => ?_
        have L1 := La.ext x1
        have hp1 : H1 p = some (.dK kvs) := x1.up _ _ upd_same
        have sp1 := L1.noS hp1
        have base : Same H0 (er (hid H1 S1) p) := fun b o hb => by
          rw [er_ne (fun z => by subst z; rw [h0] at hb; cases hb)]; exact L1.base b o hb
        have Lg : Loc X.K (er (hid H1 S1) p) (σ.set k (some (.ref p))) H1 (δ.set k .no) S1 := L1.gr (er_up.trans hid_up) fun c hc => by
          have : hid H1 S1 c = none := hid_t hc
          by_cases z : c = p
          · subst z; exact er_same
          · rw [er_ne z]; exact this
        refine ⟨fun i mm σ H => mm = items.length - i ∧ i ≤ items.length ∧ ∃ δ S kvs ks', Loc X.K (er (hid H1 S1) p) σ H δ S ∧ σ[k]? = some (some (.ref p)) ∧ H p = some (.dK kvs) ∧ KsOf kvs ks' ∧ dicN g fes (items.drop i) δ ks' = some (δ1, ks), ⟨items.length, by simp, Nat.zero_le _, _, S1, kvs, ks0, Lg, hk0, hp1, hK, e2⟩, ?_⟩
        rintro i mm σ2 H2 ⟨rfl, hi, δ2, S2, kvs2, ks2, L2, hk2, hp2, hK2, hf⟩
        by_cases hlt : i < items.length
        · have ei : items[i]? = some items[i] := List.getElem?_eq_getElem hlt
          rw [List.drop_eq_getElem_cons hlt] at hf
          unfold dicN at hf
          refine .inr ⟨it.go i H2 L2.old hlt, fun σ' H' => ∃ δ' S' kvs' ks', Loc X.K (er (hid H1 S1) p) σ' H' δ' S' ∧ σ'[k]? = some (some (.ref p)) ∧ H' p = some (.dK kvs') ∧ KsOf kvs' ks' ∧ dicN g fes (items.drop (i + 1)) δ' ks' = some (δ1, ks), fun σ' H' z => ⟨items.length - (i + 1), by omega, rfl, hlt, z⟩, fun v H' y => ?_⟩
          obtain ⟨rfl, dx⟩ := it.yld i H2 v H' _ L2.old ei y
          split at hf
          · cases hf
          · rename_i δ3 e3
            refine g2 _ σ2 H' δ2 δ3 S2 v _ _ L2 (DV.same L2.base dx) e3 fun σ3 L3 k3 => ?_
            split at hf
            · rename_i ks3 e4
              exact b2 _ σ3 H' δ3 S2 p kvs2 ks2 ks3 _ L3 (k3.trans hk2) hp2 er_same hK2 e4 fun H4 S4 kvs4 L4 hp4 hK4 => ⟨δ3, S4, kvs4, ks3, L4, k3.trans hk2, hp4, hK4, hf⟩
            · cases hf
        · have e : i = items.length := by omega
          subst e
          rw [List.drop_length] at hf
          unfold dicN at hf
          cases hf
          refine .inl ⟨it.stop _ H2 L2.old (Nat.le_refl _), ?_⟩
          have L3 : Loc X.K H0 σ2 H2 δ1 S2 := L2.gr (base.trans L2.old) fun b h => base.free (L2.frs b h)
          refine ⟨_, hk2, p, kvs2, rfl, hp2, fun l hl => ?_⟩
          refine ⟨l, ks, rfl, SqL.of (by rw [ks_vals hK2]; exact upd_same), h64, fun l2 ns' hl2 pm pw => ?_⟩
          have en : ns' = srtI ks := srt_eq (pm.trans (srtI_perm ks).symm) pw (srtI_sorted ks)
          subst en
          have x2 : Ext H2 S2 (upd (upd H2 l (.lst (kvs2.map fun kv => kV kv.1))) l2 (.lst ((srtI ks).map V.int))) (ins S2 l2) := (Ext.same (same_new hl _)).trans (Ext.ins hl2)
          have L4 := L3.ext x2
          refine r2 H0 _ _ _ (ins S2 l2) D fl (L4.slot (x := .new ((srtI ks).map PyData.int)) (Hs := H2) L3.owned (L3.kids x2) ?_ rfl) h2 q
          exact ⟨l2, _, rfl, ins_same, by
            by_cases c : l2 = l
            · subst c; rw [upd_same] at hl2; cases hl2
            · rw [upd_ne c] at hl2; exact hl2, upd_same, dvs_ints _⟩
      · cases h1
    · cases h1
  · cases h1
end
end D3

set_option Elab.async false
set_option linter.all false
set_option maxRecDepth 100000
set_option maxHeartbeats 4000000
/-! [f, g][i](e, ..) with two defs f, g -/
namespace D3
open PySem PySem.Spec PyProof.Rows L2 L3
variable [Ecx]
section
variable {X : Cx} {E : XK} {K : PySem.W.Frag}
def tCalI (tc : TE) (fa fb : Addr) (spA spB : Sp) (E : XK) (t : TA) : TE := fun σ H Q => tc σ H fun v H1 =>
  (v = .ref fa ∧ t σ H1 fun vs H2 => spA (vs ++ []) H2 Q E) ∨ (v = .ref fb ∧ t σ H1 fun vs H2 => spB (vs ++ []) H2 Q E)
theorem pe_calI {n ka kb : Nat} {xa xb : Str} {pa pb : List Str} {spA spB : Sp} {fa fb : Addr} {pos : Pos} {c e : Expr} {es : List Expr} {tc : TE} {t : TA} (CA : Cal X.prog X.w X.K X.mg X.base (CXR X.prog X.w) ka xa pa spA) (CB : Cal X.prog X.w X.K X.mg X.base (CXR X.prog X.w) kb xb pb spB) (ma : X.mg xa = some (.ref fa)) (mb : X.mg xb = some (.ref fb))
    (hr : Room n X.A) (hx : Passes (CXR X.prog X.w) X E) (hc : PE X c tc) (ha : PA X (e :: es) t) (hna : ka ≤ n) (hnb : kb ≤ n)
    (hq : eval (.Call c (e :: es) [] pos) X.env = (do callWith pos (← eval c X.env) [] (backTo pos (starEach (e :: es) X.env)) (backToKw pos (keywordEach [] X.env))))
    (he : starEach (e :: es) X.env = (false, eval e X.env) :: starEach es X.env := by rfl) (hpl : (backTo pos (starEach es X.env)).any (·.1) = false := by rfl) :
    PE X (.Call c (e :: es) [] pos) (tCalI tc fa fb spA spB E t) := by
  intro pins s σ H Q I h
  rw [hq]
  refine wpAny_bind (thn (hc pins s σ H _ I h) fun u s1 ⟨v, H1, I1, rv, q1⟩ => ?_)
  have one : ∀ {k : Nat} {y : Str} {ps : List Str} {sp : Sp} {ff : Addr}, Cal X.prog X.w X.K X.mg X.base (CXR X.prog X.w) k y ps sp → X.mg y = some (.ref ff) → k ≤ n → v = .ref ff → (t σ H1 fun vs H1 => sp (vs ++ []) H1 Q E) →
      wpAny (model X.prog X.w) X.A (callWith pos u [] (backTo pos (starEach (e :: es) X.env)) (backToKw pos (keywordEach [] X.env))) (EP X pins σ Q) X.xe s1 := fun {k y ps sp ff} C m hn e1 h => by
    obtain ⟨f, fd, F, b, kp, m'⟩ := C.ex
    rw [m] at m'; cases m'
    subst e1
    obtain rfl : u = Value.ref ff := rv
    refine PySem.W.callWith_K (h₀ := X.base) I1.ok.mod.kin kp (thn (ha pos pins s1 σ H1 _ I1 h) fun us s2 ⟨vs, H2, I2, r, q⟩ => ⟨I2.kIn, ?_⟩) he hpl
    exact run_fn F (hr.mono hn) b .nil hx I2 r q
  rcases q1 with ⟨e1, h⟩ | ⟨e1, h⟩
  · exact one CA ma hna e1 h
  · exact one CB mb hnb e1 h
def fCalI (m : Nat) (FA FB : List PyData → M Out) (fi : List Sl → M Rz) (fa : List Sl → M (List Rz)) (δ : List Sl) : M Rz :=
  match fi δ with
  | some (.ok z) => (match z.d? with
    | some (.int i) => if i = 0 then fCall (gF m FA) fa δ else if i = 1 then fCall (gF m FB) fa δ else none
    | _ => none)
  | _ => none
theorem de_calI {n ka kb m : Nat} {xa xb : Str} {pa pb : List Str} {FA FB : List PyData → M Out} {p1 p2 p3 p4 pos : Pos} {ie e : Expr} {es : List Expr} {fi : List Sl → M Rz} {fa : List Sl → M (List Rz)} (Z : Fit n X E) (CA : Cal X.prog X.w X.K X.mg X.base (CXR X.prog X.w) ka xa pa (spD X.K m FA)) (CB : Cal X.prog X.w X.K X.mg X.base (CXR X.prog X.w) kb xb pb (spD X.K m FB))
    (hi : DE X E ie fi) (ha : DA X E (e :: es) fa) (hna : ka ≤ n := by decide) (hnb : kb ≤ n := by decide) (hga : Gl X xa := by rfl) (hgb : Gl X xb := by rfl)
    (hda : (xa == ("__debug__" : Str)) = false := by decide) (hdb : (xb == ("__debug__" : Str)) = false := by decide) (hpi : PlainIx ie := by exact fun _ _ => rfl)
    (hs1 : starEach [Expr.Name xa p1, Expr.Name xb p2] X.env = (false, eval (.Name xa p1) X.env) :: starEach [Expr.Name xb p2] X.env := by rfl) (hs2 : starEach [Expr.Name xb p2] X.env = (false, eval (.Name xb p2) X.env) :: starEach [] X.env := by rfl)
    (hq : eval (.Call (.Subscript (.List [.Name xa p1, .Name xb p2] p3) ie p4) (e :: es) [] pos) X.env = (do callWith pos (← eval (.Subscript (.List [.Name xa p1, .Name xb p2] p3) ie p4) X.env) [] (backTo pos (starEach (e :: es) X.env)) (backToKw pos (keywordEach [] X.env))) := by rfl)
    (he : starEach (e :: es) X.env = (false, eval e X.env) :: starEach es X.env := by rfl) (hpl : (backTo pos (starEach es X.env)).any (·.1) = false := by rfl) :
    DE X E (.Call (.Subscript (.List [.Name xa p1, .Name xb p2] p3) ie p4) (e :: es) [] pos) (fCalI m FA FB fi fa) := by
  obtain ⟨ti, i1, i2⟩ := hi
  obtain ⟨t, a, b⟩ := ha
  have CA' := CA
  have CB' := CB
  obtain ⟨f, fd, F, bb, kp, ma⟩ := CA'.ex
  obtain ⟨f', fd', F', bb', kp', mb⟩ := CB'.ex
  refine ⟨_, pe_calI CA CB ma mb Z.rm Z.hx (pe_ix ix_list (pe_lst (pa_cons (pe_glob (v := .ref f) hga ma rfl hda) (pa_cons (pe_glob (v := .ref f') hgb mb rfl hdb) pa_nil hs2) hs1)) i1 hpi) a hna hnb hq he hpl, fun H0 σ H δ S Q r L h q => ?_⟩
  unfold fCalI at h
  split at h
  · rename_i z e1
    split at h
    · rename_i i e2
      refine ⟨by show 2 ≤ sizeLine; decide, fun l hl => ?_⟩
      have x1 : Ext H S (upd H l (.lst [.ref f, .ref f'])) S := Ext.same (same_new hl _)
      refine i2 H0 σ _ δ S _ _ (L.ext x1) e1 fun v H1 S1 g1 rv => ?_
      have hv : v = .int i := by
        have := rv.full e2
        cases this; rfl
      have hl1 : H1 l = some (.lst [.ref f, .ref f']) := g1.up _ _ upd_same
      have L1 := (L.ext x1).ext g1
      have q1 := (q.ext x1).ext g1
      split at h
      · rename_i hi
        exact ⟨l, _, i, .ref f, rfl, hv, SqL.of hl1, by rw [hi]; rfl, .inl ⟨rfl, rd_call cd_fn b H0 σ H1 δ S1 Q r L1 h q1⟩⟩
      · split at h
        · rename_i hi
          exact ⟨l, _, i, .ref f', rfl, hv, SqL.of hl1, by rw [hi]; rfl, .inr ⟨rfl, rd_call cd_fn b H0 σ H1 δ S1 Q r L1 h q1⟩⟩
        · cases h
    · cases h
  · cases h
end
end D3

set_option Elab.async false
set_option linter.all false
set_option maxRecDepth 100000
set_option maxHeartbeats 4000000
namespace Law
open PySem PySem.Spec PyProof.Rows L2 L3 D3
/-! THE TEXT BY PLACES -/
def top (i : Nat) : Stmt := PySem.Challenge.pw_neverbelow_k52_rows_put_together.main.body.getD i (.Pass ⟨0, 0, 0, 0⟩)
abbrev s_greatest_divisor : Stmt := top 13
abbrev s_number : Stmt := top 14
abbrev s_plus : Stmt := top 15
abbrev s_times : Stmt := top 16
abbrev s_less : Stmt := top 17
abbrev s_sign : Stmt := top 18
abbrev s_curve_of : Stmt := top 21
abbrev s_number_at : Stmt := top 22
abbrev s_added : Stmt := top 23
abbrev s_multiplied : Stmt := top 24
abbrev s_check_pieces : Stmt := top 28
abbrev s_row_of : Stmt := top 29
abbrev s_overlaid : Stmt := top 30
abbrev s_rows_added : Stmt := top 31
abbrev s_rows_multiplied : Stmt := top 32
abbrev s__law_cell_at : Stmt := top 34
abbrev s__law_num : Stmt := top 35
abbrev s__law_plus : Stmt := top 36
abbrev s__law_times : Stmt := top 37
abbrev s__law_less : Stmt := top 38
abbrev s__law_clean : Stmt := top 39
abbrev s__law_sum : Stmt := top 40
abbrev s__law_product : Stmt := top 41
abbrev s__law_row : Stmt := top 42
abbrev s__law_curve_at : Stmt := top 43
abbrev s__law_due : Stmt := top 44
abbrev s__law_told : Stmt := top 45
abbrev s_law : Stmt := top 46
abbrev aX (x0 x1 x2 : Bool) : Tg → Option Bool := ansL [(.exc .NoNumber, x0), (.exc .NoPieces, x1), (.exc .TooGreat, x2)]
noncomputable def B__law_cell_at : List Sl → Option Fl := (fSeq (fIfS (fB (f2 (gI gLt) (fVar 1) (fCall (g1 lenOf) (fCons (fVar 0) fNil)))) (fRet (f2 gIx (fVar 0) (fVar 1))) fNext)
    (fSeq (fIfS (fB (f2 (gEq false) (fCall (g1 lenOf) (fCons (fVar 0) fNil)) (fC (.int 0)))) (fRet (f2 (gI gAdd) (f2 (gI gMul) (f2 (gI gMul) (fVar 1) (fVar 1)) (fC (.int 48271))) (f2 (gI gMul) (fC (.int 7)) (fVar 1)))) fNext)
    (fRet (f2 (gI gAdd) (f2 (gI gFdiv) (f2 gIx (fVar 0) (f2 (gI gMod) (fVar 1) (fCall (g1 lenOf) (fCons (fVar 0) fNil)))) (f2 (gI gAdd) (fC (.int 1)) (f2 (gI gFdiv) (fVar 1) (fCall (g1 lenOf) (fCons (fVar 0) fNil))))) (f2 (gI gMul) (f2 (gI gMul) (fVar 1) (fVar 1)) (fC (.int 7919)))))))
noncomputable def F__law_cell_at : List PyData → M Out := fnD 2 0 B__law_cell_at
noncomputable def B__law_num : List Sl → Option Fl := (fSeq (fPar 2 3 (fCons (fCall (g1 absOf) (fCons (fVar 0) fNil)) (fCons (fCall (g1 absOf) (fCons (fVar 1) fNil)) fNil)))
    (fSeq (fWh (fB (f2 (gEq true) (fVar 3) (fC (.int 0)))) (fPar 2 3 (fCons (fVar 3) (fCons (f2 (gI gMod) (fVar 2) (fVar 3)) fNil))))
    (fSeq (fIfS (fB (f2 (gI gLt) (fVar 1) (fC (.int 0)))) (fSet 2 (f2 (gI gSub) (fC (.int 0)) (fVar 2))) fNext)
    (fRet (fCall gTup (fCons (f2 (gI gFdiv) (fVar 0) (fVar 2)) (fCons (f2 (gI gFdiv) (fVar 1) (fVar 2)) fNil)))))))
noncomputable def F__law_num : List PyData → M Out := fnD 2 2 B__law_num
noncomputable def B__law_clean : List Sl → Option Fl := (fSeq (fSet 1 (fCall (g1 listOf) (fCons (fVar 0) fNil)))
    (fSeq (fWh (fAnd (fB (f2 (gEq true) (fVar 1) (fCall gLst fNil))) (fB (f2 (gEq false) (f2 gIx (f2 gIx (fVar 1) (fU negOf (fC (.int 1)))) (fC (.int 0))) (fC (.int 0))))) (fPop 1))
    (fRet (fCall (g1 tupleOf) (fCons (fVar 1) fNil)))))
noncomputable def F__law_clean : List PyData → M Out := fnD 1 1 B__law_clean
noncomputable def B__law_row : List Sl → Option Fl := (fSeq (fDic 4 6 [0, 12] (fR rng1 (fCons (f2 (gI gMod) (fCall (gF 2 F__law_cell_at) (fCons (fVar 0) (fCons (fVar 1) fNil))) (fVar 2)) fNil)) (tName 5) ((f2 (gI gAdd) (fC (.int 1)) (f2 (gI gMod) (fCall (gF 2 F__law_cell_at) (fCons (fVar 0) (fCons (f2 (gI gAdd) (f2 (gI gAdd) (fVar 1) (fC (.int 1))) (fVar 5)) fNil))) (fC (.int 11)))) :: []))
    (fSeq (fSet 7 (fCall gLst fNil))
    (fSeq (fFor (fR rng1 (fCons (f2 (gI gSub) (fCall (g1 lenOf) (fCons (fVar 6) fNil)) (fC (.int 1))) fNil)) (tName 5) (fSeq (fSet 8 (fCall (gF 2 F__law_cell_at) (fCons (fVar 0) (fCons (f2 (gI gAdd) (f2 (gI gAdd) (fVar 1) (fC (.int 10))) (fVar 5)) fNil))))
    (fSeq (fSet 9 (fCall gLst fNil))
    (fSeq (fFor (fR rng1 (fCons (f2 (gI gAdd) (fC (.int 1)) (f2 (gI gMod) (fVar 8) (fVar 3))) fNil)) (tName 10) (fSeq (fApp 9 (fCall (gF 2 F__law_num) (fCons (f2 (gI gSub) (f2 (gI gMod) (fVar 8) (fC (.int 7))) (fC (.int 3))) (fCons (f2 (gI gAdd) (fC (.int 1)) (f2 (gI gMod) (fVar 10) (fC (.int 2)))) fNil))))
    (fSet 8 (f2 (gI gAdd) (f2 (gI gFdiv) (fVar 8) (fC (.int 7))) (fVar 10)))))
    (fApp 7 (fCall gTup (fCons (fCall gTup (fCons (f2 gIx (fVar 6) (fVar 5)) (fCons (fC (.int 1)) fNil))) (fCons (fCall gTup (fCons (f2 gIx (fVar 6) (f2 (gI gAdd) (fVar 5) (fC (.int 1)))) (fCons (fC (.int 1)) fNil))) (fCons (fCall (gF 1 F__law_clean) (fCons (fVar 9) fNil)) fNil)))))))))
    (fRet (fVar 7)))))
noncomputable def F__law_row : List PyData → M Out := fnD 4 7 B__law_row
noncomputable def B__law_plus : List Sl → Option Fl := (fRet (fCall (gF 2 F__law_num) (fCons (f2 (gI gAdd) (f2 (gI gMul) (f2 gIx (fVar 0) (fC (.int 0))) (f2 gIx (fVar 1) (fC (.int 1)))) (f2 (gI gMul) (f2 gIx (fVar 1) (fC (.int 0))) (f2 gIx (fVar 0) (fC (.int 1))))) (fCons (f2 (gI gMul) (f2 gIx (fVar 0) (fC (.int 1))) (f2 gIx (fVar 1) (fC (.int 1)))) fNil))))
noncomputable def F__law_plus : List PyData → M Out := fnD 2 0 B__law_plus
noncomputable def B__law_sum : List Sl → Option Fl := (fSeq (fSet 2 (fCall (g2 (gI gMax)) (fCons (fCall (g1 lenOf) (fCons (fVar 0) fNil)) (fCons (fCall (g1 lenOf) (fCons (fVar 1) fNil)) fNil))))
    (fSeq (fSet 3 (fLC (fI itemsL (fCall gLst (fCons (fVar 0) (fCons (fVar 1) fNil)))) fTrue (fFz (f2 gCat (fCall (g1 listOf) (fCons (fVar 0) fNil)) (f2 gRep (fCall gLst (fCons (fCall gTup (fCons (fC (.int 0)) (fCons (fC (.int 1)) fNil))) fNil)) (f2 (gI gSub) (fVar 3) (fCall (g1 lenOf) (fCons (fVar 0) fNil))))))))
    (fRet (fCall (gF 1 F__law_clean) (fCons (fLC (fR rng1 (fCons (fVar 2) fNil)) fTrue (fCall (gF 2 F__law_plus) (fCons (f2 gIx (f2 gIx (fVar 4) (fC (.int 0))) (fVar 0)) (fCons (f2 gIx (f2 gIx (fVar 4) (fC (.int 1))) (fVar 0)) fNil)))) fNil)))))
noncomputable def F__law_sum : List PyData → M Out := fnD 2 2 B__law_sum
noncomputable def B__law_times : List Sl → Option Fl := (fRet (fCall (gF 2 F__law_num) (fCons (f2 (gI gMul) (f2 gIx (fVar 0) (fC (.int 0))) (f2 gIx (fVar 1) (fC (.int 0)))) (fCons (f2 (gI gMul) (f2 gIx (fVar 0) (fC (.int 1))) (f2 gIx (fVar 1) (fC (.int 1)))) fNil))))
noncomputable def F__law_times : List PyData → M Out := fnD 2 0 B__law_times
noncomputable def B__law_product : List Sl → Option Fl := (fSeq (fSet 2 (f2 gRep (fCall gLst (fCons (fCall gTup (fCons (fC (.int 0)) (fCons (fC (.int 1)) fNil))) fNil)) (fCall (g2 (gI gMax)) (fCons (fC (.int 0)) (fCons (f2 (gI gSub) (f2 (gI gAdd) (fCall (g1 lenOf) (fCons (fVar 0) fNil)) (fCall (g1 lenOf) (fCons (fVar 1) fNil))) (fC (.int 1))) fNil)))))
    (fSeq (fFor (fR rng1 (fCons (fCall (g1 lenOf) (fCons (fVar 0) fNil)) fNil)) (tName 3) (fFor (fR rng1 (fCons (fCall (g1 lenOf) (fCons (fVar 1) fNil)) fNil)) (tName 4) (fPut 2 (fCall (gF 2 F__law_plus) (fCons (f2 gIx (fVar 2) (f2 (gI gAdd) (fVar 3) (fVar 4))) (fCons (fCall (gF 2 F__law_times) (fCons (f2 gIx (fVar 0) (fVar 3)) (fCons (f2 gIx (fVar 1) (fVar 4)) fNil))) fNil))) (f2 (gI gAdd) (fVar 3) (fVar 4)))))
    (fRet (fCall (gF 1 F__law_clean) (fCons (fVar 2) fNil)))))
noncomputable def F__law_product : List PyData → M Out := fnD 2 3 B__law_product
noncomputable def B__law_less : List Sl → Option Fl := (fRet (f2 (gI gLt) (f2 (gI gMul) (f2 gIx (fVar 0) (fC (.int 0))) (f2 gIx (fVar 1) (fC (.int 1)))) (f2 (gI gMul) (f2 gIx (fVar 1) (fC (.int 0))) (f2 gIx (fVar 0) (fC (.int 1))))))
noncomputable def F__law_less : List PyData → M Out := fnD 2 0 B__law_less
noncomputable def B__law_curve_at : List Sl → Option Fl := (fSeq (fSet 2 (f2 gIx (f2 gIx (fVar 0) (fC (.int 0))) (fC (.int 2))))
    (fSeq (fFrz 0 (fFor (fI itemsL (fVar 0)) (tTupT (tsCons (tName 3) (tsCons (tName 4) (tsCons (tName 5) tsNil))) 3) (fIfS (fNot (fB (fCall (gF 2 F__law_less) (fCons (fVar 1) (fCons (fVar 3) fNil))))) (fSet 2 (fVar 5)) fNext)))
    (fRet (fVar 2))))
noncomputable def F__law_curve_at : List PyData → M Out := fnD 2 4 B__law_curve_at
noncomputable def B__law_due : List Sl → Option Fl := (fSeq (fIfS (fOr (fB (f2 (gEq true) (f2 gIx (f2 gIx (fVar 1) (fU negOf (fC (.int 1)))) (fC (.int 1))) (f2 gIx (f2 gIx (fVar 2) (fU negOf (fC (.int 1)))) (fC (.int 1))))) (fB (f2 (gEq true) (f2 gIx (f2 gIx (fVar 1) (fC (.int 0))) (fC (.int 0))) (f2 gIx (f2 gIx (fVar 2) (fC (.int 0))) (fC (.int 0)))))) (fRet (fC (.str "pieces"))) fNext)
    (fSeq (fDic 3 4 [] (fI itemsL (f2 gCatS (fVar 1) (fVar 2))) (tTupT (tsCons (tName 7) (tsCons (tName 8) (tsCons (tName 9) tsNil))) 3) ((f2 gIx (fVar 7) (fC (.int 0))) :: ((f2 gIx (fVar 8) (fC (.int 0))) :: [])))
    (fSeq (fIfS (fB (f2 (gI gGt) (fCall (g1 lenOf) (fCons (fVar 4) fNil)) (fC (.int 9)))) (fRet (fC (.str "pieces"))) fNext)
    (fSeq (fSet 5 (fCall gLst fNil))
    (fSeq (fFor (fR rng1 (fCons (f2 (gI gSub) (fCall (g1 lenOf) (fCons (fVar 4) fNil)) (fC (.int 1))) fNil)) (tName 6) (fSeq (fSet 7 (fCall gTup (fCons (f2 gIx (fVar 4) (fVar 6)) (fCons (fC (.int 1)) fNil))))
    (fSeq (fSet 10 (fCall gLst (fCons (fCall (gF 2 F__law_curve_at) (fCons (fVar 1) (fCons (fVar 7) fNil))) (fCons (fCall (gF 2 F__law_curve_at) (fCons (fVar 2) (fCons (fVar 7) fNil))) fNil))))
    (fSeq (fSet 9 (fCalI 2 F__law_sum F__law_product (fVar 0) (fCons (f2 gIx (fVar 10) (fC (.int 0))) (fCons (f2 gIx (fVar 10) (fC (.int 1))) fNil))))
    (fSeq (fIfS (fB (f2 (gI gGt) (fCall (g1 lenOf) (fCons (fVar 9) fNil)) (fC (.int 7)))) (fRet (fC (.str "great"))) fNext)
    (fApp 5 (fCall gTup (fCons (fVar 7) (fCons (fCall gTup (fCons (f2 gIx (fVar 4) (f2 (gI gAdd) (fVar 6) (fC (.int 1)))) (fCons (fC (.int 1)) fNil))) (fCons (fVar 9) fNil))))))))))
    (fRet (fCall (g1 tupleOf) (fCons (fVar 5) fNil))))))))
noncomputable def F__law_due : List PyData → M Out := fnD 3 8 B__law_due
noncomputable def B_less : List Sl → Option Fl := (fRet (f2 (gI gLt) (f2 (gI gMul) (f2 gIx (fVar 0) (fC (.int 0))) (f2 gIx (fVar 1) (fC (.int 1)))) (f2 (gI gMul) (f2 gIx (fVar 1) (fC (.int 0))) (f2 gIx (fVar 0) (fC (.int 1))))))
noncomputable def F_less : List PyData → M Out := fnD 2 0 B_less
noncomputable def B_check_pieces : List Sl → Option Fl := (fSeq (fIfS (fOr (fB (f2 (gEq false) (fCall (g1 lenOf) (fCons (fVar 0) fNil)) (fC (.int 0)))) (fB (f2 (gI gGt) (fCall (g1 lenOf) (fCons (fVar 0) fNil)) (fC (.int 8))))) (fRaise .NoPieces (fCons (fC (.str "a row has one to eight pieces")) fNil)) fNext)
    (fSeq (fIfS (fNot (fB (fCall (g1 (qOf allB)) (fCons (fLC (fI itemsL (fVar 0)) fTrue (fCall (gF 2 F_less) (fCons (f2 gIx (fVar 0) (fC (.int 0))) (fCons (f2 gIx (fVar 0) (fC (.int 1))) fNil)))) fNil)))) (fRaise .NoPieces (fCons (fC (.str "a piece has its low less than its high")) fNil)) fNext)
    (fIfS (fNot (fB (fCall (g1 (qOf allB)) (fCons (fLC (fR rng2 (fCons (fC (.int 1)) (fCons (fCall (g1 lenOf) (fCons (fVar 0) fNil)) fNil))) fTrue (f2 (gEq false) (f2 gIx (f2 gIx (fVar 1) (fVar 0)) (fC (.int 0))) (f2 gIx (f2 gIx (fVar 1) (f2 (gI gSub) (fVar 0) (fC (.int 1)))) (fC (.int 1))))) fNil)))) (fRaise .NoPieces (fCons (fC (.str "each piece begins where the one ahead ends")) fNil)) fNext)))
noncomputable def F_check_pieces : List PyData → M Out := fnD 1 0 B_check_pieces
noncomputable def B_row_of : List Sl → Option Fl := (fSeq (fDrop (fCall (gF 1 F_check_pieces) (fCons (fVar 0) fNil)))
    (fSeq (fIfS (fB (fCall (g1 (qOf anyB)) (fCons (fLC (fI itemsL (fVar 0)) fTrue (f2 (gI gGt) (f2 (gI gSub) (fCall (g1 lenOf) (fCons (f2 gIx (fVar 0) (fC (.int 2))) fNil)) (fC (.int 1))) (fC (.int 6)))) fNil))) (fRaise .TooGreat (fCons (fC (.str "the curve of a piece has a degree of at most six")) fNil)) fNext)
    (fRet (fCall (g1 tupleOf) (fCons (fVar 0) fNil)))))
noncomputable def F_row_of : List PyData → M Out := fnD 1 0 B_row_of
noncomputable def B_sign : List Sl → Option Fl := (fSeq (fIfS (fB (f2 (gI gGt) (f2 gIx (fVar 0) (fC (.int 0))) (fC (.int 0)))) (fRet (fC (.int 1))) fNext)
    (fSeq (fIfS (fB (f2 (gI gLt) (f2 gIx (fVar 0) (fC (.int 0))) (fC (.int 0)))) (fRet (fU negOf (fC (.int 1)))) fNext)
    (fRet (fC (.int 0)))))
noncomputable def F_sign : List PyData → M Out := fnD 1 0 B_sign
noncomputable def B_curve_of : List Sl → Option Fl := (fSeq (fSet 1 (fCall (g1 lenOf) (fCons (fVar 0) fNil)))
    (fSeq (fWh (fAnd (fB (f2 (gI gGt) (fVar 1) (fC (.int 0)))) (fB (f2 (gEq false) (fCall (gF 1 F_sign) (fCons (f2 gIx (fVar 0) (f2 (gI gSub) (fVar 1) (fC (.int 1)))) fNil)) (fC (.int 0))))) (fSet 1 (f2 (gI gSub) (fVar 1) (fC (.int 1)))))
    (fSeq (fIfS (fB (f2 (gI gGt) (fVar 1) (fC (.int 13)))) (fRaise .TooGreat (fCons (fC (.str "a curve has at most thirteen numbers")) fNil)) fNext)
    (fRet (fCall (g1 tupleOf) (fCons (fSl gSlL (fVar 0) fNoP (fPart (fVar 1))) fNil))))))
noncomputable def F_curve_of : List PyData → M Out := fnD 1 1 B_curve_of
noncomputable def B_greatest_divisor : List Sl → Option Fl := (fSeq (fWh (fB (f2 (gEq true) (fVar 1) (fC (.int 0)))) (fSeq (fSet 2 (f2 (gI gMod) (fVar 0) (fVar 1)))
    (fSeq (fSet 0 (fVar 1))
    (fSet 1 (fVar 2)))))
    (fRet (fCall (g1 absOf) (fCons (fVar 0) fNil))))
noncomputable def F_greatest_divisor : List PyData → M Out := fnD 2 1 B_greatest_divisor
noncomputable def B_number : List Sl → Option Fl := (fSeq (fIfS (fB (f2 (gEq false) (fVar 1) (fC (.int 0)))) (fRaise .NoNumber (fCons (fC (.str "a number has no bottom 0")) fNil)) fNext)
    (fSeq (fSet 2 (fCall (gF 2 F_greatest_divisor) (fCons (fVar 0) (fCons (fVar 1) fNil))))
    (fSeq (fIfS (fB (f2 (gI gLt) (fVar 1) (fC (.int 0)))) (fSet 2 (fU negOf (fVar 2))) fNext)
    (fRet (fCall gTup (fCons (f2 (gI gFdiv) (fVar 0) (fVar 2)) (fCons (f2 (gI gFdiv) (fVar 1) (fVar 2)) fNil)))))))
noncomputable def F_number : List PyData → M Out := fnD 2 1 B_number
noncomputable def B_plus : List Sl → Option Fl := (fRet (fCall (gF 2 F_number) (fCons (f2 (gI gAdd) (f2 (gI gMul) (f2 gIx (fVar 0) (fC (.int 0))) (f2 gIx (fVar 1) (fC (.int 1)))) (f2 (gI gMul) (f2 gIx (fVar 1) (fC (.int 0))) (f2 gIx (fVar 0) (fC (.int 1))))) (fCons (f2 (gI gMul) (f2 gIx (fVar 0) (fC (.int 1))) (f2 gIx (fVar 1) (fC (.int 1)))) fNil))))
noncomputable def F_plus : List PyData → M Out := fnD 2 0 B_plus
noncomputable def B_number_at : List Sl → Option Fl := (fSeq (fIfS (fB (f2 (gI gLt) (fVar 1) (fCall (g1 lenOf) (fCons (fVar 0) fNil)))) (fRet (f2 gIx (fVar 0) (fVar 1))) fNext)
    (fRet (fC (.tuple [(.int 0), (.int 1)]))))
noncomputable def F_number_at : List PyData → M Out := fnD 2 0 B_number_at
noncomputable def B_added : List Sl → Option Fl := (fSeq (fSet 2 (fCall (g2 (gI gMax)) (fCons (fCall (g1 lenOf) (fCons (fVar 0) fNil)) (fCons (fCall (g1 lenOf) (fCons (fVar 1) fNil)) fNil))))
    (fRet (fCall (gF 1 F_curve_of) (fCons (fLC (fR rng1 (fCons (fVar 2) fNil)) fTrue (fCall (gF 2 F_plus) (fCons (fCall (gF 2 F_number_at) (fCons (fVar 1) (fCons (fVar 0) fNil))) (fCons (fCall (gF 2 F_number_at) (fCons (fVar 2) (fCons (fVar 0) fNil))) fNil)))) fNil))))
noncomputable def F_added : List PyData → M Out := fnD 2 1 B_added
noncomputable def B_overlaid : List Sl → Option Fl := (fSeq (fIfS (fOr (fB (f2 (gEq true) (f2 gIx (f2 gIx (fVar 0) (fC (.int 0))) (fC (.int 0))) (f2 gIx (f2 gIx (fVar 1) (fC (.int 0))) (fC (.int 0))))) (fB (f2 (gEq true) (f2 gIx (f2 gIx (fVar 0) (fU negOf (fC (.int 1)))) (fC (.int 1))) (f2 gIx (f2 gIx (fVar 1) (fU negOf (fC (.int 1)))) (fC (.int 1)))))) (fRaise .NoPieces (fCons (fC (.str "both rows begin alike and end alike")) fNil)) fNext)
    (fSeq (fSet 2 (fCall gLst fNil))
    (fSeq (fSet 3 (f2 gIx (f2 gIx (fVar 0) (fC (.int 0))) (fC (.int 0))))
    (fSeq (fSet 4 (fC (.int 0)))
    (fSeq (fSet 5 (fC (.int 0)))
    (fSeq (fWh (fB (f2 (gI gLt) (fVar 4) (fCall (g1 lenOf) (fCons (fVar 0) fNil)))) (fSeq (fSet 6 (f2 gIx (f2 gIx (fVar 0) (fVar 4)) (fC (.int 1))))
    (fSeq (fIfS (fB (fCall (gF 2 F_less) (fCons (f2 gIx (f2 gIx (fVar 1) (fVar 5)) (fC (.int 1))) (fCons (fVar 6) fNil)))) (fSet 6 (f2 gIx (f2 gIx (fVar 1) (fVar 5)) (fC (.int 1)))) fNext)
    (fSeq (fApp 2 (fCall gTup (fCons (fVar 3) (fCons (fVar 6) (fCons (f2 gIx (f2 gIx (fVar 0) (fVar 4)) (fC (.int 2))) (fCons (f2 gIx (f2 gIx (fVar 1) (fVar 5)) (fC (.int 2))) fNil))))))
    (fSeq (fSet 3 (fVar 6))
    (fSeq (fIfS (fB (f2 (gEq false) (f2 gIx (f2 gIx (fVar 0) (fVar 4)) (fC (.int 1))) (fVar 6))) (fSet 4 (f2 (gI gAdd) (fVar 4) (fC (.int 1)))) fNext)
    (fIfS (fB (f2 (gEq false) (f2 gIx (f2 gIx (fVar 1) (fVar 5)) (fC (.int 1))) (fVar 6))) (fSet 5 (f2 (gI gAdd) (fVar 5) (fC (.int 1)))) fNext)))))))
    (fRet (fVar 2))))))))
noncomputable def F_overlaid : List PyData → M Out := fnD 2 5 B_overlaid
noncomputable def B_rows_added : List Sl → Option Fl := (fRet (fCall (gF 1 F_row_of) (fCons (fLC (fI itemsL (fCall (gF 2 F_overlaid) (fCons (fVar 0) (fCons (fVar 1) fNil)))) fTrue (fCall gTup (fCons (f2 gIx (fVar 0) (fC (.int 0))) (fCons (f2 gIx (fVar 0) (fC (.int 1))) (fCons (fCall (gF 2 F_added) (fCons (f2 gIx (fVar 0) (fC (.int 2))) (fCons (f2 gIx (fVar 0) (fC (.int 3))) fNil))) fNil))))) fNil)))
noncomputable def F_rows_added : List PyData → M Out := fnD 2 0 B_rows_added
noncomputable def B_times : List Sl → Option Fl := (fRet (fCall (gF 2 F_number) (fCons (f2 (gI gMul) (f2 gIx (fVar 0) (fC (.int 0))) (f2 gIx (fVar 1) (fC (.int 0)))) (fCons (f2 (gI gMul) (f2 gIx (fVar 0) (fC (.int 1))) (f2 gIx (fVar 1) (fC (.int 1)))) fNil))))
noncomputable def F_times : List PyData → M Out := fnD 2 0 B_times
noncomputable def B_multiplied : List Sl → Option Fl := (fSeq (fIfS (fOr (fB (f2 (gEq false) (fCall (g1 lenOf) (fCons (fVar 0) fNil)) (fC (.int 0)))) (fB (f2 (gEq false) (fCall (g1 lenOf) (fCons (fVar 1) fNil)) (fC (.int 0))))) (fRet (fCall gTup fNil)) fNext)
    (fSeq (fSet 2 (f2 gRep (fCall gLst (fCons (fC (.tuple [(.int 0), (.int 1)])) fNil)) (f2 (gI gSub) (f2 (gI gAdd) (fCall (g1 lenOf) (fCons (fVar 0) fNil)) (fCall (g1 lenOf) (fCons (fVar 1) fNil))) (fC (.int 1)))))
    (fSeq (fFor (fR rng1 (fCons (fCall (g1 lenOf) (fCons (fVar 0) fNil)) fNil)) (tName 3) (fFor (fR rng1 (fCons (fCall (g1 lenOf) (fCons (fVar 1) fNil)) fNil)) (tName 4) (fSeq (fSet 5 (fCall (gF 2 F_times) (fCons (f2 gIx (fVar 0) (fVar 3)) (fCons (f2 gIx (fVar 1) (fVar 4)) fNil))))
    (fPut 2 (fCall (gF 2 F_plus) (fCons (f2 gIx (fVar 2) (f2 (gI gAdd) (fVar 3) (fVar 4))) (fCons (fVar 5) fNil))) (f2 (gI gAdd) (fVar 3) (fVar 4))))))
    (fRet (fCall (gF 1 F_curve_of) (fCons (fVar 2) fNil))))))
noncomputable def F_multiplied : List PyData → M Out := fnD 2 4 B_multiplied
noncomputable def B_rows_multiplied : List Sl → Option Fl := (fRet (fCall (gF 1 F_row_of) (fCons (fLC (fI itemsL (fCall (gF 2 F_overlaid) (fCons (fVar 0) (fCons (fVar 1) fNil)))) fTrue (fCall gTup (fCons (f2 gIx (fVar 0) (fC (.int 0))) (fCons (f2 gIx (fVar 0) (fC (.int 1))) (fCons (fCall (gF 2 F_multiplied) (fCons (f2 gIx (fVar 0) (fC (.int 2))) (fCons (f2 gIx (fVar 0) (fC (.int 3))) fNil))) fNil))))) fNil)))
noncomputable def F_rows_multiplied : List PyData → M Out := fnD 2 0 B_rows_multiplied
noncomputable def B__law_told : List Sl → Option Fl := (fSeq (fSet 3 (fC .none))
    (fSeq (fTryJ (fun n => decide (n ∈ ([Ex.NoNumber, Ex.NoPieces, Ex.TooGreat] : List Ex))) (xSeq (xIf (fB (f2 (gEq false) (fVar 0) (fC (.int 0)))) (xSeq (xCal (gF 2 F_rows_added) (fCons (fVar 1) (fCons (fVar 2) fNil)) (kSet 3)) xNext) (xSeq (xCal (gF 2 F_rows_multiplied) (fCons (fVar 1) (fCons (fVar 2) fNil)) (kSet 3)) xNext)) xNext) 4 (fSeq (fSet 3 (fC (.str "other")))
    (fSeq (fSet 5 (fU (gIsi (aX true false false)) (fVar 4)))
    (fSeq (fIfS (fAnd (fNot (fB (fVar 5))) (fB (fU (gIsi (aX true true true)) (fVar 4)))) (fSeq (fSet 6 (fCall gLst (fCons (fU (gIsi (aX false true false)) (fVar 4)) (fCons (fU (gIsi (aX false false true)) (fVar 4)) fNil))))
    (fSeq (fIfS (fSum 6 4) (fSeq (fSet 3 (f2 gIx (fCall gLst (fCons (fC (.str "pieces")) (fCons (fC (.str "great")) fNil))) (fU gIdx (fVar 6))))
    fNext) fNext)
    fNext)) fNext)
    fNext))))
    (fRet (fVar 3))))
noncomputable def F__law_told : List PyData → M Out := fnD 3 4 B__law_told
noncomputable def B_law : List Sl → Option Fl := (fSeq (fSet 1 (f2 (gI gMod) (fCall (gF 2 F__law_cell_at) (fCons (fVar 0) (fCons (fC (.int 50)) fNil))) (fC (.int 4))))
    (fSeq (fSet 2 (f2 gIx (fCall gLst (fCons (fC (.int 4)) (fCons (fC (.int 4)) (fCons (fC (.int 8)) (fCons (fC (.int 4)) fNil))))) (fVar 1)))
    (fSeq (fSet 3 (f2 gIx (fCall gLst (fCons (fC (.int 3)) (fCons (fC (.int 3)) (fCons (fC (.int 3)) (fCons (fC (.int 6)) fNil))))) (fVar 1)))
    (fSeq (fSet 4 (fCall (gF 4 F__law_row) (fCons (fVar 0) (fCons (fC (.int 0)) (fCons (fVar 2) (fCons (fVar 3) fNil))))))
    (fSeq (fSet 5 (fCall (gF 4 F__law_row) (fCons (fVar 0) (fCons (fC (.int 25)) (fCons (fVar 2) (fCons (fVar 3) fNil))))))
    (fSeq (fIfS (fAnd (fB (f2 (gEq false) (fVar 1) (fC (.int 1)))) (fB (f2 (gEq false) (f2 (gI gMod) (fCall (gF 2 F__law_cell_at) (fCons (fVar 0) (fCons (fC (.int 51)) fNil))) (fC (.int 2))) (fC (.int 1))))) (fPut 5 (fCall gTup (fCons (f2 gIx (f2 gIx (fVar 5) (fU negOf (fC (.int 1)))) (fC (.int 0))) (fCons (fCall gTup (fCons (fC (.int 13)) (fCons (fC (.int 1)) fNil))) (fCons (f2 gIx (f2 gIx (fVar 5) (fU negOf (fC (.int 1)))) (fC (.int 2))) fNil)))) (fU negOf (fC (.int 1)))) (fIfS (fB (f2 (gEq false) (fVar 1) (fC (.int 1)))) (fPut 5 (fCall gTup (fCons (f2 gIx (fCall gLst (fCons (fCall gTup (fCons (fU negOf (fC (.int 1))) (fCons (fC (.int 1)) fNil))) (fCons (fCall gTup (fCons (fC (.int 1)) (fCons (fC (.int 2)) fNil))) fNil))) (f2 (gI gMod) (f2 (gI gFdiv) (fCall (gF 2 F__law_cell_at) (fCons (fVar 0) (fCons (fC (.int 51)) fNil))) (fC (.int 2))) (fC (.int 2)))) (fCons (f2 gIx (f2 gIx (fVar 5) (fC (.int 0))) (fC (.int 1))) (fCons (f2 gIx (f2 gIx (fVar 5) (fC (.int 0))) (fC (.int 2))) fNil)))) (fC (.int 0))) fNext))
    (fSeq (fFor (fR rng1 (fCons (fC (.int 2)) fNil)) (tName 6) (fSeq (fSet 7 (fCall (gF 3 F__law_due) (fCons (fVar 6) (fCons (fVar 4) (fCons (fVar 5) fNil)))))
    (fIfS (fOr (fB (f2 (gEq true) (fCall (gF 3 F__law_told) (fCons (fVar 6) (fCons (fCall (gF 1 F_row_of) (fCons (fVar 4) fNil)) (fCons (fCall (gF 1 F_row_of) (fCons (fVar 5) fNil)) fNil)))) (fVar 7))) (fB (f2 (gEq true) (fCall (gF 3 F__law_told) (fCons (fVar 6) (fCons (fCall (gF 1 F_row_of) (fCons (fVar 5) fNil)) (fCons (fCall (gF 1 F_row_of) (fCons (fVar 4) fNil)) fNil)))) (fVar 7)))) (fRet (fC (.bool false))) fNext)))
    (fRet (fC (.bool true))))))))))
noncomputable def F_law : List PyData → M Out := fnD 1 7 B_law
section
variable [Ecx]
structure Facts (K : PySem.W.Frag) (mg : Str → Option Value) : Prop where
  m_len : mg "len" = none
  m_abs : mg "abs" = none
  m_list : mg "list" = none
  m_tuple : mg "tuple" = none
  m_range : mg "range" = none
  m_sorted : mg "sorted" = none
  m_max : mg "max" = none
  c_MOST_PIECES : HasC K mg "MOST_PIECES" (.int 8)
  m_NoPieces : mg "NoPieces" = some (.ref (ecx .NoPieces))
  q_NoPieces : PySem.W.excIn K (ecx .NoPieces) [.type "ValueError", .type "Exception", .type "BaseException", .type "object"] "ValueError.__new__" = true
  m_all : mg "all" = none
  c_MOST_DEGREE : HasC K mg "MOST_DEGREE" (.int 6)
  m_any : mg "any" = none
  m_TooGreat : mg "TooGreat" = some (.ref (ecx .TooGreat))
  q_TooGreat : PySem.W.excIn K (ecx .TooGreat) [.type "ValueError", .type "Exception", .type "BaseException", .type "object"] "ValueError.__new__" = true
  c_MOST_NUMBERS : HasC K mg "MOST_NUMBERS" (.int 13)
  m_NoNumber : mg "NoNumber" = some (.ref (ecx .NoNumber))
  q_NoNumber : PySem.W.excIn K (ecx .NoNumber) [.type "ValueError", .type "Exception", .type "BaseException", .type "object"] "ValueError.__new__" = true
  c_NOUGHT : HasC K mg "NOUGHT" (.tuple [(.int 0), (.int 1)])
  m_BelowError : mg "BelowError" = some (.ref (ecx .BelowError))
  ck_BelowError : CatchAll K (ecx .BelowError) (fun n => decide (n ∈ ([Ex.NoNumber, Ex.NoPieces, Ex.TooGreat] : List Ex)))
  m_sum : mg "sum" = none
  m_isinstance : mg "isinstance" = none
  ik_TooGreat : IsK K (.ref (ecx .TooGreat)) (aX false false true)
  ik_NoPieces : IsK K (.ref (ecx .NoPieces)) (aX false true false)
  m_ValueError : mg "ValueError" = none
  ik_ValueError : IsK K (.ty "ValueError") (aX true true true)
  m_NoCurve : mg "NoCurve" = some (.ref (ecx .NoCurve))
  m_NoName : mg "NoName" = some (.ref (ecx .NoName))
  m_NoNear : mg "NoNear" = some (.ref (ecx .NoNear))
  m_NoRow : mg "NoRow" = some (.ref (ecx .NoRow))
  m_NoStretch : mg "NoStretch" = some (.ref (ecx .NoStretch))
  m_NoText : mg "NoText" = some (.ref (ecx .NoText))
  ik_NoCurve_NoName_NoNear_NoNumber_NoRow_NoStretch_NoText : IsKs K [(.ref (ecx .NoCurve)), (.ref (ecx .NoName)), (.ref (ecx .NoNear)), (.ref (ecx .NoNumber)), (.ref (ecx .NoRow)), (.ref (ecx .NoStretch)), (.ref (ecx .NoText))] (aX true false false)
abbrev N__law_sum : List Str := ["_law_one", "_law_other", "_law_size", "_law_more"]
abbrev N_check_pieces : List Str := ["pieces"]
abbrev N_row_of : List Str := ["pieces"]
abbrev N_added : List Str := ["one", "other", "size"]
abbrev N_rows_added : List Str := ["one", "other"]
abbrev N_rows_multiplied : List Str := ["one", "other"]
section
variable (P : Program) (w : World) (K : PySem.W.Frag) (mg : Str → Option Value) (base : Heap)
abbrev Q__law_cell_at := Cal P w K mg base (CXR P w) 1 "_law_cell_at" ["_law_script", "_law_k"] (spD K 2 F__law_cell_at)
abbrev Q__law_num := Cal P w K mg base (CXR P w) 1 "_law_num" ["_law_top", "_law_bottom"] (spD K 2 F__law_num)
abbrev Q__law_clean := Cal P w K mg base (CXR P w) 1 "_law_clean" ["_law_numbers"] (spD K 1 F__law_clean)
abbrev Q__law_plus := Cal P w K mg base (CXR P w) 2 "_law_plus" ["_law_one", "_law_other"] (spD K 2 F__law_plus)
abbrev Q__law_times := Cal P w K mg base (CXR P w) 2 "_law_times" ["_law_one", "_law_other"] (spD K 2 F__law_times)
abbrev Q__law_less := Cal P w K mg base (CXR P w) 1 "_law_less" ["_law_one", "_law_other"] (spD K 2 F__law_less)
abbrev Q__law_sum := Cal P w K mg base (CXR P w) 3 "_law_sum" ["_law_one", "_law_other"] (spD K 2 F__law_sum)
abbrev Q__law_product := Cal P w K mg base (CXR P w) 3 "_law_product" ["_law_one", "_law_other"] (spD K 2 F__law_product)
abbrev Q__law_curve_at := Cal P w K mg base (CXR P w) 2 "_law_curve_at" ["_law_pieces", "_law_x"] (spD K 2 F__law_curve_at)
abbrev Q_less := Cal P w K mg base (CXR P w) 1 "less" ["one", "other"] (spD K 2 F_less)
abbrev Q_check_pieces := Cal P w K mg base (CXR P w) 2 "check_pieces" N_row_of (spD K 1 F_check_pieces)
abbrev Q_sign := Cal P w K mg base (CXR P w) 1 "sign" ["one"] (spD K 1 F_sign)
abbrev Q_greatest_divisor := Cal P w K mg base (CXR P w) 1 "greatest_divisor" ["one", "other"] (spD K 2 F_greatest_divisor)
abbrev Q_number := Cal P w K mg base (CXR P w) 2 "number" ["top", "bottom"] (spD K 2 F_number)
abbrev Q_curve_of := Cal P w K mg base (CXR P w) 2 "curve_of" ["numbers"] (spD K 1 F_curve_of)
abbrev Q_plus := Cal P w K mg base (CXR P w) 3 "plus" ["one", "other"] (spD K 2 F_plus)
abbrev Q_number_at := Cal P w K mg base (CXR P w) 1 "number_at" ["curve", "place"] (spD K 2 F_number_at)
abbrev Q_row_of := Cal P w K mg base (CXR P w) 3 "row_of" ["pieces"] (spD K 1 F_row_of)
abbrev Q_added := Cal P w K mg base (CXR P w) 4 "added" N_rows_added (spD K 2 F_added)
abbrev Q_times := Cal P w K mg base (CXR P w) 3 "times" ["one", "other"] (spD K 2 F_times)
abbrev Q_multiplied := Cal P w K mg base (CXR P w) 4 "multiplied" N_rows_multiplied (spD K 2 F_multiplied)
abbrev Q_rows_added := Cal P w K mg base (CXR P w) 5 "rows_added" ["one", "other"] (spD K 2 F_rows_added)
abbrev Q_rows_multiplied := Cal P w K mg base (CXR P w) 5 "rows_multiplied" ["one", "other"] (spD K 2 F_rows_multiplied)
abbrev Q__law_row := Cal P w K mg base (CXR P w) 2 "_law_row" ["_law_script", "_law_at", "_law_most", "_law_size"] (spD K 4 F__law_row)
abbrev Q__law_due := Cal P w K mg base (CXR P w) 4 "_law_due" ["_law_way", "_law_one", "_law_other"] (spD K 3 F__law_due)
abbrev Q__law_told := Cal P w K mg base (CXR P w) 6 "_law_told" ["_law_way", "_law_one", "_law_other"] (spD K 3 F__law_told)
end
local macro_rules | `(tactic| walk_at "sc") => `(tactic| exact ⟨rfl, rfl, rfl, by decide +kernel, rfl, by decide +kernel, by decide +kernel⟩)
variable {P : Program} {w : World} {K : PySem.W.Frag} {mg : Str → Option Value} {base : Heap} {f : Addr} {fd : FuncData}
theorem sc__law_cell_at : FnScope ["_law_script", "_law_k"] ["_law_script", "_law_k"] (defScope s__law_cell_at) := by walk_at "sc"
theorem ok__law_cell_at (A : Facts K mg) (F : Fun K "_law_cell_at" "_law_cell_at" s__law_cell_at f fd) : FnOk P w K mg base (CXR P w) 1 f fd ["_law_script", "_law_k"] (spD K 2 F__law_cell_at) :=
  fn_ok 2 0 B__law_cell_at F sc__law_cell_at rfl rfl fun cdv AA outer s H E Z =>
   (dss_cons (ds_if (dt_cmp op_lt od_lt (de_var 1) (de_callB call_len_seq cd_len A.m_len PySem.boot_len (da_cons (de_var 0) da_nil))) (dss_one (ds_ret (de_ix (de_var 0) (de_var 1)))) dss_nil)
    (dss_cons (ds_if (dt_cmp (op_eqD Z.rm.units) od_eq (de_callB call_len_seq cd_len A.m_len PySem.boot_len (da_cons (de_var 0) da_nil)) de_int) (dss_one (ds_ret (de_bin op_add od_add (de_bin op_mulW od_mul (de_bin op_mulW od_mul (de_var 1) (de_var 1)) de_int) (de_bin op_mulW od_mul de_int (de_var 1))))) dss_nil)
    (dss_one (ds_ret (de_bin op_add od_add (de_bin op_fdivW od_fdiv (de_ix (de_var 0) (de_bin op_modN od_mod (de_var 1) (de_callB call_len_seq cd_len A.m_len PySem.boot_len (da_cons (de_var 0) da_nil)))) (de_bin op_add od_add de_int (de_bin op_fdivW od_fdiv (de_var 1) (de_callB call_len_seq cd_len A.m_len PySem.boot_len (da_cons (de_var 0) da_nil))))) (de_bin op_mulW od_mul (de_bin op_mulW od_mul (de_var 1) (de_var 1)) de_int))))))
theorem sc__law_num : FnScope ["_law_top", "_law_bottom", "_law_one", "_law_other"] ["_law_top", "_law_bottom"] (defScope s__law_num) := by walk_at "sc"
theorem ok__law_num (A : Facts K mg) (F : Fun K "_law_num" "_law_num" s__law_num f fd) : FnOk P w K mg base (CXR P w) 1 f fd ["_law_top", "_law_bottom"] (spD K 2 F__law_num) :=
  fn_ok 2 2 B__law_num F sc__law_num rfl rfl fun cdv AA outer s H E Z =>
   (dss_cons (ds_par 2 3 Z (da_cons (de_callB call_abs cd_abs A.m_abs PyProof.Rows.boot_abs (da_cons (de_var 0) da_nil)) (da_cons (de_callB call_abs cd_abs A.m_abs PyProof.Rows.boot_abs (da_cons (de_var 1) da_nil)) da_nil)) (fun _ h => ps_par rfl sc__law_num.nd rfl rfl (by decide) rfl rfl h rfl))
    (dss_cons (ds_while Z (dt_cmp (op_neD Z.rm.units) od_ne (de_var 3) de_int) (dss_one (ds_par 2 3 Z (da_cons (de_var 3) (da_cons (de_bin op_modN od_mod (de_var 2) (de_var 3)) da_nil)) (fun _ h => ps_par rfl sc__law_num.nd rfl rfl (by decide) rfl rfl h rfl))))
    (dss_cons (ds_if (dt_cmp op_lt od_lt (de_var 1) de_int) (dss_one (ds_set 2 sc__law_num.nd (de_bin op_sub od_sub de_int (de_var 2)))) dss_nil)
    (dss_one (ds_ret (de_tup (da_cons (de_bin op_fdivW od_fdiv (de_var 0) (de_var 2)) (da_cons (de_bin op_fdivW od_fdiv (de_var 1) (de_var 2)) da_nil))))))))
theorem sc__law_clean : FnScope ["_law_numbers", "_law_found"] ["_law_numbers"] (defScope s__law_clean) := by walk_at "sc"
theorem ok__law_clean (A : Facts K mg) (F : Fun K "_law_clean" "_law_clean" s__law_clean f fd) : FnOk P w K mg base (CXR P w) 1 f fd ["_law_numbers"] (spD K 1 F__law_clean) :=
  fn_ok 1 1 B__law_clean F sc__law_clean rfl rfl fun cdv AA outer s H E Z =>
   (dss_cons (ds_set 1 sc__law_clean.nd (de_callTy call_list_of cd_list A.m_list boot_list (da_cons (de_var 0) da_nil)))
    (dss_cons (ds_while Z (DW.pt (dw_and (dt_cmp (op_neD Z.rm.units) od_ne (de_var 1) (de_lst da_nil)) (dw_and1 (dt_cmp (op_eqD Z.rm.units) od_eq (de_ix (de_ix (de_var 1) (de_neg de_int)) de_int) de_int)))) (dss_one (ds_pop 1)))
    (dss_one (ds_ret (de_callTy call_tuple_of cd_tuple A.m_tuple boot_tuple (da_cons (de_var 1) da_nil))))))
theorem sc__law_row : FnScope ["_law_script", "_law_at", "_law_most", "_law_size", "_law_cuts", "_law_k", "_law_places", "_law_found", "_law_cell", "_law_numbers", "_law_j"] ["_law_script", "_law_at", "_law_most", "_law_size"] (defScope s__law_row) := by walk_at "sc"
theorem ok__law_row (A : Facts K mg) (C__law_cell_at : Q__law_cell_at P w K mg base) (C__law_num : Q__law_num P w K mg base) (C__law_clean : Q__law_clean P w K mg base) (F : Fun K "_law_row" "_law_row" s__law_row f fd) : FnOk P w K mg base (CXR P w) 2 f fd ["_law_script", "_law_at", "_law_most", "_law_size"] (spD K 4 F__law_row) :=
  fn_ok 4 7 B__law_row F sc__law_row rfl rfl fun cdv AA outer s H E Z =>
   (dss_dic 4 6 Z dn_two (dik_range1 (E := E) A.m_range (da_cons (de_bin op_modN od_mod (de_cal Z C__law_cell_at (da_cons (de_var 0) (da_cons (de_var 1) da_nil))) (de_var 2)) da_nil)) (dgk_name 5 sc__law_row.nd) (dbs_cons 4 Z (de_bin op_add od_add de_int (de_bin op_modN od_mod (de_cal Z C__law_cell_at (da_cons (de_var 0) (da_cons (de_bin op_add od_add (de_bin op_add od_add (de_var 1) de_int) (de_var 5)) da_nil))) de_int)) dbs_nil)
    (dss_cons (ds_set 7 sc__law_row.nd (de_lst da_nil))
    (dss_cons (ds_for Z (di_range1 A.m_range (da_cons (de_bin op_sub od_sub (de_callB call_len_seq cd_len A.m_len PySem.boot_len (da_cons (de_var 6) da_nil)) de_int) da_nil)) (dg_name 5 sc__law_row.nd) (dss_cons (ds_set 8 sc__law_row.nd (de_cal Z C__law_cell_at (da_cons (de_var 0) (da_cons (de_bin op_add od_add (de_bin op_add od_add (de_var 1) de_int) (de_var 5)) da_nil))))
    (dss_cons (ds_set 9 sc__law_row.nd (de_lst da_nil))
    (dss_cons (ds_for Z (di_range1 A.m_range (da_cons (de_bin op_add od_add de_int (de_bin op_modN od_mod (de_var 8) (de_var 3))) da_nil)) (dg_name 10 sc__law_row.nd) (dss_cons (ds_append 9 (de_cal Z C__law_num (da_cons (de_bin op_sub od_sub (de_bin op_modN od_mod (de_var 8) de_int) de_int) (da_cons (de_bin op_add od_add de_int (de_bin op_modN od_mod (de_var 10) de_int)) da_nil))))
    (dss_one (ds_set 8 sc__law_row.nd (de_bin op_add od_add (de_bin op_fdivW od_fdiv (de_var 8) de_int) (de_var 10))))))
    (dss_one (ds_append 7 (de_tup (da_cons (de_tup (da_cons (de_ix (de_var 6) (de_var 5)) (da_cons de_int da_nil))) (da_cons (de_tup (da_cons (de_ix (de_var 6) (de_bin op_add od_add (de_var 5) de_int)) (da_cons de_int da_nil))) (da_cons (de_cal Z C__law_clean (da_cons (de_var 9) da_nil)) da_nil))))))))))
    (dss_one (ds_ret (de_var 7))))) A.m_list A.m_sorted)
theorem sc__law_plus : FnScope ["_law_one", "_law_other"] ["_law_one", "_law_other"] (defScope s__law_plus) := by walk_at "sc"
theorem ok__law_plus (A : Facts K mg) (C__law_num : Q__law_num P w K mg base) (F : Fun K "_law_plus" "_law_plus" s__law_plus f fd) : FnOk P w K mg base (CXR P w) 2 f fd ["_law_one", "_law_other"] (spD K 2 F__law_plus) :=
  fn_ok 2 0 B__law_plus F sc__law_plus rfl rfl fun cdv AA outer s H E Z =>
   (dss_one (ds_ret (de_cal Z C__law_num (da_cons (de_bin op_add od_add (de_bin op_mulW od_mul (de_ix (de_var 0) de_int) (de_ix (de_var 1) de_int)) (de_bin op_mulW od_mul (de_ix (de_var 1) de_int) (de_ix (de_var 0) de_int))) (da_cons (de_bin op_mulW od_mul (de_ix (de_var 0) de_int) (de_ix (de_var 1) de_int)) da_nil)))))
theorem sc__law_sum : FnScope N__law_sum ["_law_one", "_law_other"] (defScope s__law_sum) := by walk_at "sc"
theorem ok__law_sum (A : Facts K mg) (C__law_clean : Q__law_clean P w K mg base) (C__law_plus : Q__law_plus P w K mg base) (F : Fun K "_law_sum" "_law_sum" s__law_sum f fd) : FnOk P w K mg base (CXR P w) 3 f fd ["_law_one", "_law_other"] (spD K 2 F__law_sum) :=
  fn_ok 2 2 B__law_sum F sc__law_sum rfl rfl fun cdv AA outer s H E Z =>
   (dss_cons (ds_set 2 sc__law_sum.nd (de_callB (call_max2 Z.cm) cd_max A.m_max PyProof.Rows.boot_max (da_cons (de_callB call_len_seq cd_len A.m_len PySem.boot_len (da_cons (de_var 0) da_nil)) (da_cons (de_callB call_len_seq cd_len A.m_len PySem.boot_len (da_cons (de_var 1) da_nil)) da_nil))))
    (dss_cons (ds_set 3 sc__law_sum.nd (de_lcN (N' := N__law_sum) Z (fun _ h => cell_has h) (by show compChk N__law_sum _ _ (defScope s__law_sum) = true; decide +kernel) (by show chkN N__law_sum N__law_sum _ _ = true; decide +kernel) (DI.c (di_list (de_lst (da_cons (de_var 0) (da_cons (de_var 1) da_nil))))) (fun _ _ _ _ _ Z => difs_nil) (fun _ _ _ _ _ Z => (de_fz (de_bin op_cat od_cat (de_callTy call_list_of cd_list A.m_list boot_list (da_cons (de_var 0) da_nil)) (de_bin op_rep od_rep (de_lst (da_cons (de_tup (da_cons de_int (da_cons de_int da_nil))) da_nil)) (de_bin op_sub od_sub (de_var 3) (de_callB call_len_seq cd_len A.m_len PySem.boot_len (da_cons (de_var 0) da_nil)))))))))
    (dss_one (ds_ret (de_cal Z C__law_clean (da_cons (de_lcN (N' := N__law_sum) Z (fun _ h => cell_has h) (by show compChk N__law_sum _ _ (defScope s__law_sum) = true; decide +kernel) (by show chkN N__law_sum N__law_sum _ _ = true; decide +kernel) (DI.c (di_range1 A.m_range (da_cons (de_var 2) da_nil))) (fun _ _ _ _ _ Z => difs_nil) (fun _ _ _ _ _ Z => (de_cal Z C__law_plus (da_cons (de_ix (de_ix (de_var 4) de_int) (de_var 0)) (da_cons (de_ix (de_ix (de_var 4) de_int) (de_var 0)) da_nil))))) da_nil))))))
theorem sc__law_times : FnScope ["_law_one", "_law_other"] ["_law_one", "_law_other"] (defScope s__law_times) := by walk_at "sc"
theorem ok__law_times (A : Facts K mg) (C__law_num : Q__law_num P w K mg base) (F : Fun K "_law_times" "_law_times" s__law_times f fd) : FnOk P w K mg base (CXR P w) 2 f fd ["_law_one", "_law_other"] (spD K 2 F__law_times) :=
  fn_ok 2 0 B__law_times F sc__law_times rfl rfl fun cdv AA outer s H E Z =>
   (dss_one (ds_ret (de_cal Z C__law_num (da_cons (de_bin op_mulW od_mul (de_ix (de_var 0) de_int) (de_ix (de_var 1) de_int)) (da_cons (de_bin op_mulW od_mul (de_ix (de_var 0) de_int) (de_ix (de_var 1) de_int)) da_nil)))))
theorem sc__law_product : FnScope ["_law_one", "_law_other", "_law_found", "_law_j", "_law_k"] ["_law_one", "_law_other"] (defScope s__law_product) := by walk_at "sc"
theorem ok__law_product (A : Facts K mg) (C__law_clean : Q__law_clean P w K mg base) (C__law_plus : Q__law_plus P w K mg base) (C__law_times : Q__law_times P w K mg base) (F : Fun K "_law_product" "_law_product" s__law_product f fd) : FnOk P w K mg base (CXR P w) 3 f fd ["_law_one", "_law_other"] (spD K 2 F__law_product) :=
  fn_ok 2 3 B__law_product F sc__law_product rfl rfl fun cdv AA outer s H E Z =>
   (dss_cons (ds_set 2 sc__law_product.nd (de_bin op_rep od_rep (de_lst (da_cons (de_tup (da_cons de_int (da_cons de_int da_nil))) da_nil)) (de_callB (call_max2 Z.cm) cd_max A.m_max PyProof.Rows.boot_max (da_cons de_int (da_cons (de_bin op_sub od_sub (de_bin op_add od_add (de_callB call_len_seq cd_len A.m_len PySem.boot_len (da_cons (de_var 0) da_nil)) (de_callB call_len_seq cd_len A.m_len PySem.boot_len (da_cons (de_var 1) da_nil))) de_int) da_nil)))))
    (dss_cons (ds_for Z (di_range1 A.m_range (da_cons (de_callB call_len_seq cd_len A.m_len PySem.boot_len (da_cons (de_var 0) da_nil)) da_nil)) (dg_name 3 sc__law_product.nd) (dss_one (ds_for Z (di_range1 A.m_range (da_cons (de_callB call_len_seq cd_len A.m_len PySem.boot_len (da_cons (de_var 1) da_nil)) da_nil)) (dg_name 4 sc__law_product.nd) (dss_one (ds_put 2 (de_cal Z C__law_plus (da_cons (de_ix (de_var 2) (de_bin op_add od_add (de_var 3) (de_var 4))) (da_cons (de_cal Z C__law_times (da_cons (de_ix (de_var 0) (de_var 3)) (da_cons (de_ix (de_var 1) (de_var 4)) da_nil))) da_nil))) (de_bin op_add od_add (de_var 3) (de_var 4)))))))
    (dss_one (ds_ret (de_cal Z C__law_clean (da_cons (de_var 2) da_nil))))))
theorem sc__law_less : FnScope ["_law_one", "_law_other"] ["_law_one", "_law_other"] (defScope s__law_less) := by walk_at "sc"
theorem ok__law_less (A : Facts K mg) (F : Fun K "_law_less" "_law_less" s__law_less f fd) : FnOk P w K mg base (CXR P w) 1 f fd ["_law_one", "_law_other"] (spD K 2 F__law_less) :=
  fn_ok 2 0 B__law_less F sc__law_less rfl rfl fun cdv AA outer s H E Z =>
   (dss_one (ds_ret (de_cmp op_lt od_lt (de_bin op_mulW od_mul (de_ix (de_var 0) de_int) (de_ix (de_var 1) de_int)) (de_bin op_mulW od_mul (de_ix (de_var 1) de_int) (de_ix (de_var 0) de_int)))))
theorem sc__law_curve_at : FnScope ["_law_pieces", "_law_x", "_law_found", "_law_low", "_law_high", "_law_curve"] ["_law_pieces", "_law_x"] (defScope s__law_curve_at) := by walk_at "sc"
theorem ok__law_curve_at (A : Facts K mg) (C__law_less : Q__law_less P w K mg base) (F : Fun K "_law_curve_at" "_law_curve_at" s__law_curve_at f fd) : FnOk P w K mg base (CXR P w) 2 f fd ["_law_pieces", "_law_x"] (spD K 2 F__law_curve_at) :=
  fn_ok 2 4 B__law_curve_at F sc__law_curve_at rfl rfl fun cdv AA outer s H E Z =>
   (dss_cons (ds_set 2 sc__law_curve_at.nd (de_ix (de_ix (de_var 0) de_int) de_int))
    (dss_cons (ds_frz 0 (ds_for Z (di_list (de_var 0)) (dg_tup Z (dgs_cons (dg_name 3 sc__law_curve_at.nd) (dgs_cons (dg_name 4 sc__law_curve_at.nd) (dgs_cons (dg_name 5 sc__law_curve_at.nd) dgs_nil)))) (dss_one (ds_if (dt_not (dt_val (de_cal Z C__law_less (da_cons (de_var 1) (da_cons (de_var 3) da_nil))))) (dss_one (ds_set 2 sc__law_curve_at.nd (de_var 5))) dss_nil))))
    (dss_one (ds_ret (de_var 2)))))
theorem sc__law_due : FnScope ["_law_way", "_law_one", "_law_other", "_law_places", "_law_joints", "_law_found", "_law_k", "_law_low", "_law_high", "_law_curve", "_law_curves"] ["_law_way", "_law_one", "_law_other"] (defScope s__law_due) := by walk_at "sc"
theorem ok__law_due (A : Facts K mg) (C__law_sum : Q__law_sum P w K mg base) (C__law_product : Q__law_product P w K mg base) (C__law_curve_at : Q__law_curve_at P w K mg base) (F : Fun K "_law_due" "_law_due" s__law_due f fd) : FnOk P w K mg base (CXR P w) 4 f fd ["_law_way", "_law_one", "_law_other"] (spD K 3 F__law_due) :=
  fn_ok 3 8 B__law_due F sc__law_due rfl rfl fun cdv AA outer s H E Z =>
   (dss_cons (ds_if (DW.pt (dw_or (dt_cmp (op_neD Z.rm.units) od_ne (de_ix (de_ix (de_var 1) (de_neg de_int)) de_int) (de_ix (de_ix (de_var 2) (de_neg de_int)) de_int)) (dw_or1 (dt_cmp (op_neD Z.rm.units) od_ne (de_ix (de_ix (de_var 1) de_int) de_int) (de_ix (de_ix (de_var 2) de_int) de_int))))) (dss_one (ds_ret de_str)) dss_nil)
    (dss_dic 3 4 Z dn_nil (dik_list (E := E) (de_bin op_catS od_catS (de_var 1) (de_var 2))) (dgk_tup Z (dgsk_cons (dgk_name 7 sc__law_due.nd) (dgsk_cons (dgk_name 8 sc__law_due.nd) (dgsk_cons (dgk_name 9 sc__law_due.nd) dgsk_nil)))) (dbs_cons 3 Z (de_ix (de_var 7) de_int) (dbs_cons 3 Z (de_ix (de_var 8) de_int) dbs_nil))
    (dss_cons (ds_if (dt_cmp op_gt od_gt (de_callB call_len_seq cd_len A.m_len PySem.boot_len (da_cons (de_var 4) da_nil)) de_int) (dss_one (ds_ret de_str)) dss_nil)
    (dss_cons (ds_set 5 sc__law_due.nd (de_lst da_nil))
    (dss_cons (ds_for Z (di_range1 A.m_range (da_cons (de_bin op_sub od_sub (de_callB call_len_seq cd_len A.m_len PySem.boot_len (da_cons (de_var 4) da_nil)) de_int) da_nil)) (dg_name 6 sc__law_due.nd) (dss_cons (ds_set 7 sc__law_due.nd (de_tup (da_cons (de_ix (de_var 4) (de_var 6)) (da_cons de_int da_nil))))
    (dss_cons (ds_set 10 sc__law_due.nd (de_lst (da_cons (de_cal Z C__law_curve_at (da_cons (de_var 1) (da_cons (de_var 7) da_nil))) (da_cons (de_cal Z C__law_curve_at (da_cons (de_var 2) (da_cons (de_var 7) da_nil))) da_nil))))
    (dss_cons (ds_set 9 sc__law_due.nd (de_calI Z C__law_sum C__law_product (de_var 0) (da_cons (de_ix (de_var 10) de_int) (da_cons (de_ix (de_var 10) de_int) da_nil))))
    (dss_cons (ds_if (dt_cmp op_gt od_gt (de_callB call_len_seq cd_len A.m_len PySem.boot_len (da_cons (de_var 9) da_nil)) de_int) (dss_one (ds_ret de_str)) dss_nil)
    (dss_one (ds_append 5 (de_tup (da_cons (de_var 7) (da_cons (de_tup (da_cons (de_ix (de_var 4) (de_bin op_add od_add (de_var 6) de_int)) (da_cons de_int da_nil))) (da_cons (de_var 9) da_nil)))))))))))
    (dss_one (ds_ret (de_callTy call_tuple_of cd_tuple A.m_tuple boot_tuple (da_cons (de_var 5) da_nil))))))) A.m_list A.m_sorted))
theorem sc_less : FnScope ["one", "other"] ["one", "other"] (defScope s_less) := by walk_at "sc"
theorem ok_less (A : Facts K mg) (F : Fun K "less" "less" s_less f fd) : FnOk P w K mg base (CXR P w) 1 f fd ["one", "other"] (spD K 2 F_less) :=
  fn_ok 2 0 B_less F sc_less rfl rfl fun cdv AA outer s H E Z =>
   (dss_one (ds_ret (de_cmp op_lt od_lt (de_bin op_mulW od_mul (de_ix (de_var 0) de_int) (de_ix (de_var 1) de_int)) (de_bin op_mulW od_mul (de_ix (de_var 1) de_int) (de_ix (de_var 0) de_int)))))
theorem sc_check_pieces : FnScope N_check_pieces N_check_pieces (defScope s_check_pieces) := by walk_at "sc"
theorem ok_check_pieces (A : Facts K mg) (C_less : Q_less P w K mg base) (F : Fun K "check_pieces" "check_pieces" s_check_pieces f fd) : FnOk P w K mg base (CXR P w) 2 f fd N_check_pieces (spD K 1 F_check_pieces) :=
  fn_ok 1 0 B_check_pieces F sc_check_pieces rfl rfl fun cdv AA outer s H E Z =>
   (dss_cons (ds_if (DW.pt (dw_or (dt_cmp (op_eqD Z.rm.units) od_eq (de_callB call_len_seq cd_len A.m_len PySem.boot_len (da_cons (de_var 0) da_nil)) de_int) (dw_or1 (dt_cmp op_gt od_gt (de_callB call_len_seq cd_len A.m_len PySem.boot_len (da_cons (de_var 0) da_nil)) (de_const A.c_MOST_PIECES))))) (dss_one (ds_raise .NoPieces Z A.m_NoPieces A.q_NoPieces (da_cons de_str da_nil))) dss_nil)
    (dss_cons (ds_if (dt_not (dt_val (de_callB (call_all_bl Z.cm) cd_all A.m_all PyProof.Rows.boot_all (da_cons (de_lcN (N' := N_check_pieces) Z (fun _ h => cell_has h) (by show compChk N_check_pieces _ _ (defScope s_check_pieces) = true; decide +kernel) (by show chkN N_check_pieces N_check_pieces _ _ = true; decide +kernel) (DI.c (di_list (de_var 0))) (fun _ _ _ _ _ Z => difs_nil) (fun _ _ _ _ _ Z => (de_cal Z C_less (da_cons (de_ix (de_var 0) de_int) (da_cons (de_ix (de_var 0) de_int) da_nil))))) da_nil)))) (dss_one (ds_raise .NoPieces Z A.m_NoPieces A.q_NoPieces (da_cons de_str da_nil))) dss_nil)
    (dss_one (ds_if (dt_not (dt_val (de_callB (call_all_bl Z.cm) cd_all A.m_all PyProof.Rows.boot_all (da_cons (de_lcN (N' := N_check_pieces) Z (fun _ h => cell_has h) (by show compChk N_check_pieces _ _ (defScope s_check_pieces) = true; decide +kernel) (by show chkN N_check_pieces N_check_pieces _ _ = true; decide +kernel) (DI.c (di_range2 A.m_range (da_cons de_int (da_cons (de_callB call_len_seq cd_len A.m_len PySem.boot_len (da_cons (de_var 0) da_nil)) da_nil)))) (fun _ _ _ _ _ Z => difs_nil) (fun _ _ _ _ _ Z => (de_cmp (op_eqD Z.rm.units) od_eq (de_ix (de_ix (de_var 1) (de_var 0)) de_int) (de_ix (de_ix (de_var 1) (de_bin op_sub od_sub (de_var 0) de_int)) de_int)))) da_nil)))) (dss_one (ds_raise .NoPieces Z A.m_NoPieces A.q_NoPieces (da_cons de_str da_nil))) dss_nil))))
theorem sc_row_of : FnScope N_row_of N_row_of (defScope s_row_of) := by walk_at "sc"
theorem ok_row_of (A : Facts K mg) (C_check_pieces : Q_check_pieces P w K mg base) (F : Fun K "row_of" "row_of" s_row_of f fd) : FnOk P w K mg base (CXR P w) 3 f fd N_row_of (spD K 1 F_row_of) :=
  fn_ok 1 0 B_row_of F sc_row_of rfl rfl fun cdv AA outer s H E Z =>
   (dss_cons (ds_expr (de_cal Z C_check_pieces (da_cons (de_var 0) da_nil)))
    (dss_cons (ds_if (dt_val (de_callB (call_any_bl Z.cm) cd_any A.m_any PyProof.Rows.boot_any (da_cons (de_lcN (N' := N_row_of) Z (fun _ h => cell_has h) (by show compChk N_row_of _ _ (defScope s_row_of) = true; decide +kernel) (by show chkN N_row_of N_row_of _ _ = true; decide +kernel) (DI.c (di_list (de_var 0))) (fun _ _ _ _ _ Z => difs_nil) (fun _ _ _ _ _ Z => (de_cmp op_gt od_gt (de_bin op_sub od_sub (de_callB call_len_seq cd_len A.m_len PySem.boot_len (da_cons (de_ix (de_var 0) de_int) da_nil)) de_int) (de_const A.c_MOST_DEGREE)))) da_nil))) (dss_one (ds_raise .TooGreat Z A.m_TooGreat A.q_TooGreat (da_cons de_str da_nil))) dss_nil)
    (dss_one (ds_ret (de_callTy call_tuple_of cd_tuple A.m_tuple boot_tuple (da_cons (de_var 0) da_nil))))))
theorem sc_sign : FnScope ["one"] ["one"] (defScope s_sign) := by walk_at "sc"
theorem ok_sign (A : Facts K mg) (F : Fun K "sign" "sign" s_sign f fd) : FnOk P w K mg base (CXR P w) 1 f fd ["one"] (spD K 1 F_sign) :=
  fn_ok 1 0 B_sign F sc_sign rfl rfl fun cdv AA outer s H E Z =>
   (dss_cons (ds_if (dt_cmp op_gt od_gt (de_ix (de_var 0) de_int) de_int) (dss_one (ds_ret de_int)) dss_nil)
    (dss_cons (ds_if (dt_cmp op_lt od_lt (de_ix (de_var 0) de_int) de_int) (dss_one (ds_ret (de_neg de_int))) dss_nil)
    (dss_one (ds_ret de_int))))
theorem sc_curve_of : FnScope ["numbers", "size"] ["numbers"] (defScope s_curve_of) := by walk_at "sc"
theorem ok_curve_of (A : Facts K mg) (C_sign : Q_sign P w K mg base) (F : Fun K "curve_of" "curve_of" s_curve_of f fd) : FnOk P w K mg base (CXR P w) 2 f fd ["numbers"] (spD K 1 F_curve_of) :=
  fn_ok 1 1 B_curve_of F sc_curve_of rfl rfl fun cdv AA outer s H E Z =>
   (dss_cons (ds_set 1 sc_curve_of.nd (de_callB call_len_seq cd_len A.m_len PySem.boot_len (da_cons (de_var 0) da_nil)))
    (dss_cons (ds_while Z (DW.pt (dw_and (dt_cmp op_gt od_gt (de_var 1) de_int) (dw_and1 (dt_cmp (op_eqD Z.rm.units) od_eq (de_cal Z C_sign (da_cons (de_ix (de_var 0) (de_bin op_sub od_sub (de_var 1) de_int)) da_nil)) de_int)))) (dss_one (ds_set 1 sc_curve_of.nd (de_bin op_sub od_sub (de_var 1) de_int))))
    (dss_cons (ds_if (dt_cmp op_gt od_gt (de_var 1) (de_const A.c_MOST_NUMBERS)) (dss_one (ds_raise .TooGreat Z A.m_TooGreat A.q_TooGreat (da_cons de_str da_nil))) dss_nil)
    (dss_one (ds_ret (de_callTy call_tuple_of cd_tuple A.m_tuple boot_tuple (da_cons (de_slice sl_list sd_list (de_var 0) do_none (do_some (de_var 1))) da_nil)))))))
theorem sc_greatest_divisor : FnScope ["one", "other", "rest"] ["one", "other"] (defScope s_greatest_divisor) := by walk_at "sc"
theorem ok_greatest_divisor (A : Facts K mg) (F : Fun K "greatest_divisor" "greatest_divisor" s_greatest_divisor f fd) : FnOk P w K mg base (CXR P w) 1 f fd ["one", "other"] (spD K 2 F_greatest_divisor) :=
  fn_ok 2 1 B_greatest_divisor F sc_greatest_divisor rfl rfl fun cdv AA outer s H E Z =>
   (dss_cons (ds_while Z (dt_cmp (op_neD Z.rm.units) od_ne (de_var 1) de_int) (dss_cons (ds_set 2 sc_greatest_divisor.nd (de_bin op_modN od_mod (de_var 0) (de_var 1)))
    (dss_cons (ds_set 0 sc_greatest_divisor.nd (de_var 1))
    (dss_one (ds_set 1 sc_greatest_divisor.nd (de_var 2))))))
    (dss_one (ds_ret (de_callB call_abs cd_abs A.m_abs PyProof.Rows.boot_abs (da_cons (de_var 0) da_nil)))))
theorem sc_number : FnScope ["top", "bottom", "divisor"] ["top", "bottom"] (defScope s_number) := by walk_at "sc"
theorem ok_number (A : Facts K mg) (C_greatest_divisor : Q_greatest_divisor P w K mg base) (F : Fun K "number" "number" s_number f fd) : FnOk P w K mg base (CXR P w) 2 f fd ["top", "bottom"] (spD K 2 F_number) :=
  fn_ok 2 1 B_number F sc_number rfl rfl fun cdv AA outer s H E Z =>
   (dss_cons (ds_if (dt_cmp (op_eqD Z.rm.units) od_eq (de_var 1) de_int) (dss_one (ds_raise .NoNumber Z A.m_NoNumber A.q_NoNumber (da_cons de_str da_nil))) dss_nil)
    (dss_cons (ds_set 2 sc_number.nd (de_cal Z C_greatest_divisor (da_cons (de_var 0) (da_cons (de_var 1) da_nil))))
    (dss_cons (ds_if (dt_cmp op_lt od_lt (de_var 1) de_int) (dss_one (ds_set 2 sc_number.nd (de_neg (de_var 2)))) dss_nil)
    (dss_one (ds_ret (de_tup (da_cons (de_bin op_fdivW od_fdiv (de_var 0) (de_var 2)) (da_cons (de_bin op_fdivW od_fdiv (de_var 1) (de_var 2)) da_nil))))))))
theorem sc_plus : FnScope ["one", "other"] ["one", "other"] (defScope s_plus) := by walk_at "sc"
theorem ok_plus (A : Facts K mg) (C_number : Q_number P w K mg base) (F : Fun K "plus" "plus" s_plus f fd) : FnOk P w K mg base (CXR P w) 3 f fd ["one", "other"] (spD K 2 F_plus) :=
  fn_ok 2 0 B_plus F sc_plus rfl rfl fun cdv AA outer s H E Z =>
   (dss_one (ds_ret (de_cal Z C_number (da_cons (de_bin op_add od_add (de_bin op_mulW od_mul (de_ix (de_var 0) de_int) (de_ix (de_var 1) de_int)) (de_bin op_mulW od_mul (de_ix (de_var 1) de_int) (de_ix (de_var 0) de_int))) (da_cons (de_bin op_mulW od_mul (de_ix (de_var 0) de_int) (de_ix (de_var 1) de_int)) da_nil)))))
theorem sc_number_at : FnScope ["curve", "place"] ["curve", "place"] (defScope s_number_at) := by walk_at "sc"
theorem ok_number_at (A : Facts K mg) (F : Fun K "number_at" "number_at" s_number_at f fd) : FnOk P w K mg base (CXR P w) 1 f fd ["curve", "place"] (spD K 2 F_number_at) :=
  fn_ok 2 0 B_number_at F sc_number_at rfl rfl fun cdv AA outer s H E Z =>
   (dss_cons (ds_if (dt_cmp op_lt od_lt (de_var 1) (de_callB call_len_seq cd_len A.m_len PySem.boot_len (da_cons (de_var 0) da_nil))) (dss_one (ds_ret (de_ix (de_var 0) (de_var 1)))) dss_nil)
    (dss_one (ds_ret (de_const A.c_NOUGHT))))
theorem sc_added : FnScope N_added ["one", "other"] (defScope s_added) := by walk_at "sc"
theorem ok_added (A : Facts K mg) (C_curve_of : Q_curve_of P w K mg base) (C_plus : Q_plus P w K mg base) (C_number_at : Q_number_at P w K mg base) (F : Fun K "added" "added" s_added f fd) : FnOk P w K mg base (CXR P w) 4 f fd ["one", "other"] (spD K 2 F_added) :=
  fn_ok 2 1 B_added F sc_added rfl rfl fun cdv AA outer s H E Z =>
   (dss_cons (ds_set 2 sc_added.nd (de_callB (call_max2 Z.cm) cd_max A.m_max PyProof.Rows.boot_max (da_cons (de_callB call_len_seq cd_len A.m_len PySem.boot_len (da_cons (de_var 0) da_nil)) (da_cons (de_callB call_len_seq cd_len A.m_len PySem.boot_len (da_cons (de_var 1) da_nil)) da_nil))))
    (dss_one (ds_ret (de_cal Z C_curve_of (da_cons (de_lcN (N' := N_added) Z (fun _ h => cell_has h) (by show compChk N_added _ _ (defScope s_added) = true; decide +kernel) (by show chkN N_added N_added _ _ = true; decide +kernel) (DI.c (di_range1 A.m_range (da_cons (de_var 2) da_nil))) (fun _ _ _ _ _ Z => difs_nil) (fun _ _ _ _ _ Z => (de_cal Z C_plus (da_cons (de_cal Z C_number_at (da_cons (de_var 1) (da_cons (de_var 0) da_nil))) (da_cons (de_cal Z C_number_at (da_cons (de_var 2) (da_cons (de_var 0) da_nil))) da_nil))))) da_nil)))))
theorem sc_overlaid : FnScope ["one", "other", "found", "low", "place", "step", "high"] ["one", "other"] (defScope s_overlaid) := by walk_at "sc"
theorem ok_overlaid (A : Facts K mg) (C_less : Q_less P w K mg base) (F : Fun K "overlaid" "overlaid" s_overlaid f fd) : FnOk P w K mg base (CXR P w) 2 f fd ["one", "other"] (spD K 2 F_overlaid) :=
  fn_ok 2 5 B_overlaid F sc_overlaid rfl rfl fun cdv AA outer s H E Z =>
   (dss_cons (ds_if (DW.pt (dw_or (dt_cmp (op_neD Z.rm.units) od_ne (de_ix (de_ix (de_var 0) de_int) de_int) (de_ix (de_ix (de_var 1) de_int) de_int)) (dw_or1 (dt_cmp (op_neD Z.rm.units) od_ne (de_ix (de_ix (de_var 0) (de_neg de_int)) de_int) (de_ix (de_ix (de_var 1) (de_neg de_int)) de_int))))) (dss_one (ds_raise .NoPieces Z A.m_NoPieces A.q_NoPieces (da_cons de_str da_nil))) dss_nil)
    (dss_cons (ds_set 2 sc_overlaid.nd (de_lst da_nil))
    (dss_cons (ds_set 3 sc_overlaid.nd (de_ix (de_ix (de_var 0) de_int) de_int))
    (dss_cons (ds_set 4 sc_overlaid.nd de_int)
    (dss_cons (ds_set 5 sc_overlaid.nd de_int)
    (dss_cons (ds_while Z (dt_cmp op_lt od_lt (de_var 4) (de_callB call_len_seq cd_len A.m_len PySem.boot_len (da_cons (de_var 0) da_nil))) (dss_cons (ds_set 6 sc_overlaid.nd (de_ix (de_ix (de_var 0) (de_var 4)) de_int))
    (dss_cons (ds_if (dt_val (de_cal Z C_less (da_cons (de_ix (de_ix (de_var 1) (de_var 5)) de_int) (da_cons (de_var 6) da_nil)))) (dss_one (ds_set 6 sc_overlaid.nd (de_ix (de_ix (de_var 1) (de_var 5)) de_int))) dss_nil)
    (dss_cons (ds_append 2 (de_tup (da_cons (de_var 3) (da_cons (de_var 6) (da_cons (de_ix (de_ix (de_var 0) (de_var 4)) de_int) (da_cons (de_ix (de_ix (de_var 1) (de_var 5)) de_int) da_nil))))))
    (dss_cons (ds_set 3 sc_overlaid.nd (de_var 6))
    (dss_cons (ds_if (dt_cmp (op_eqD Z.rm.units) od_eq (de_ix (de_ix (de_var 0) (de_var 4)) de_int) (de_var 6)) (dss_one (ds_set 4 sc_overlaid.nd (de_bin op_add od_add (de_var 4) de_int))) dss_nil)
    (dss_one (ds_if (dt_cmp (op_eqD Z.rm.units) od_eq (de_ix (de_ix (de_var 1) (de_var 5)) de_int) (de_var 6)) (dss_one (ds_set 5 sc_overlaid.nd (de_bin op_add od_add (de_var 5) de_int))) dss_nil))))))))
    (dss_one (ds_ret (de_var 2)))))))))
theorem sc_rows_added : FnScope N_rows_added N_rows_added (defScope s_rows_added) := by walk_at "sc"
theorem ok_rows_added (A : Facts K mg) (C_row_of : Q_row_of P w K mg base) (C_added : Q_added P w K mg base) (C_overlaid : Cal P w K mg base (CXR P w) 2 "overlaid" N_rows_added (spD K 2 F_overlaid)) (F : Fun K "rows_added" "rows_added" s_rows_added f fd) : FnOk P w K mg base (CXR P w) 5 f fd N_rows_added (spD K 2 F_rows_added) :=
  fn_ok 2 0 B_rows_added F sc_rows_added rfl rfl fun cdv AA outer s H E Z =>
   (dss_one (ds_ret (de_cal Z C_row_of (da_cons (de_lcN (N' := N_rows_added) Z (fun _ h => cell_has h) (by show compChk N_rows_added _ _ (defScope s_rows_added) = true; decide +kernel) (by show chkN N_rows_added N_rows_added _ _ = true; decide +kernel) (DI.c (di_list (de_cal Z C_overlaid (da_cons (de_var 0) (da_cons (de_var 1) da_nil))))) (fun _ _ _ _ _ Z => difs_nil) (fun _ _ _ _ _ Z => (de_tup (da_cons (de_ix (de_var 0) de_int) (da_cons (de_ix (de_var 0) de_int) (da_cons (de_cal Z C_added (da_cons (de_ix (de_var 0) de_int) (da_cons (de_ix (de_var 0) de_int) da_nil))) da_nil)))))) da_nil))))
theorem sc_times : FnScope ["one", "other"] ["one", "other"] (defScope s_times) := by walk_at "sc"
theorem ok_times (A : Facts K mg) (C_number : Q_number P w K mg base) (F : Fun K "times" "times" s_times f fd) : FnOk P w K mg base (CXR P w) 3 f fd ["one", "other"] (spD K 2 F_times) :=
  fn_ok 2 0 B_times F sc_times rfl rfl fun cdv AA outer s H E Z =>
   (dss_one (ds_ret (de_cal Z C_number (da_cons (de_bin op_mulW od_mul (de_ix (de_var 0) de_int) (de_ix (de_var 1) de_int)) (da_cons (de_bin op_mulW od_mul (de_ix (de_var 0) de_int) (de_ix (de_var 1) de_int)) da_nil)))))
theorem sc_multiplied : FnScope ["one", "other", "found", "place", "step", "product"] ["one", "other"] (defScope s_multiplied) := by walk_at "sc"
theorem ok_multiplied (A : Facts K mg) (C_curve_of : Q_curve_of P w K mg base) (C_times : Q_times P w K mg base) (C_plus : Q_plus P w K mg base) (F : Fun K "multiplied" "multiplied" s_multiplied f fd) : FnOk P w K mg base (CXR P w) 4 f fd ["one", "other"] (spD K 2 F_multiplied) :=
  fn_ok 2 4 B_multiplied F sc_multiplied rfl rfl fun cdv AA outer s H E Z =>
   (dss_cons (ds_if (DW.pt (dw_or (dt_cmp (op_eqD Z.rm.units) od_eq (de_callB call_len_seq cd_len A.m_len PySem.boot_len (da_cons (de_var 0) da_nil)) de_int) (dw_or1 (dt_cmp (op_eqD Z.rm.units) od_eq (de_callB call_len_seq cd_len A.m_len PySem.boot_len (da_cons (de_var 1) da_nil)) de_int)))) (dss_one (ds_ret (de_tup da_nil))) dss_nil)
    (dss_cons (ds_set 2 sc_multiplied.nd (de_bin op_rep od_rep (de_lst (da_cons (de_const A.c_NOUGHT) da_nil)) (de_bin op_sub od_sub (de_bin op_add od_add (de_callB call_len_seq cd_len A.m_len PySem.boot_len (da_cons (de_var 0) da_nil)) (de_callB call_len_seq cd_len A.m_len PySem.boot_len (da_cons (de_var 1) da_nil))) de_int)))
    (dss_cons (ds_for Z (di_range1 A.m_range (da_cons (de_callB call_len_seq cd_len A.m_len PySem.boot_len (da_cons (de_var 0) da_nil)) da_nil)) (dg_name 3 sc_multiplied.nd) (dss_one (ds_for Z (di_range1 A.m_range (da_cons (de_callB call_len_seq cd_len A.m_len PySem.boot_len (da_cons (de_var 1) da_nil)) da_nil)) (dg_name 4 sc_multiplied.nd) (dss_cons (ds_set 5 sc_multiplied.nd (de_cal Z C_times (da_cons (de_ix (de_var 0) (de_var 3)) (da_cons (de_ix (de_var 1) (de_var 4)) da_nil))))
    (dss_one (ds_put 2 (de_cal Z C_plus (da_cons (de_ix (de_var 2) (de_bin op_add od_add (de_var 3) (de_var 4))) (da_cons (de_var 5) da_nil))) (de_bin op_add od_add (de_var 3) (de_var 4))))))))
    (dss_one (ds_ret (de_cal Z C_curve_of (da_cons (de_var 2) da_nil)))))))
theorem sc_rows_multiplied : FnScope N_rows_multiplied N_rows_multiplied (defScope s_rows_multiplied) := by walk_at "sc"
theorem ok_rows_multiplied (A : Facts K mg) (C_row_of : Q_row_of P w K mg base) (C_multiplied : Q_multiplied P w K mg base) (C_overlaid : Cal P w K mg base (CXR P w) 2 "overlaid" N_rows_multiplied (spD K 2 F_overlaid)) (F : Fun K "rows_multiplied" "rows_multiplied" s_rows_multiplied f fd) : FnOk P w K mg base (CXR P w) 5 f fd N_rows_multiplied (spD K 2 F_rows_multiplied) :=
  fn_ok 2 0 B_rows_multiplied F sc_rows_multiplied rfl rfl fun cdv AA outer s H E Z =>
   (dss_one (ds_ret (de_cal Z C_row_of (da_cons (de_lcN (N' := N_rows_multiplied) Z (fun _ h => cell_has h) (by show compChk N_rows_multiplied _ _ (defScope s_rows_multiplied) = true; decide +kernel) (by show chkN N_rows_multiplied N_rows_multiplied _ _ = true; decide +kernel) (DI.c (di_list (de_cal Z C_overlaid (da_cons (de_var 0) (da_cons (de_var 1) da_nil))))) (fun _ _ _ _ _ Z => difs_nil) (fun _ _ _ _ _ Z => (de_tup (da_cons (de_ix (de_var 0) de_int) (da_cons (de_ix (de_var 0) de_int) (da_cons (de_cal Z C_multiplied (da_cons (de_ix (de_var 0) de_int) (da_cons (de_ix (de_var 0) de_int) da_nil))) da_nil)))))) da_nil))))
theorem sc__law_told : FnScope ["_law_way", "_law_one", "_law_other", "_law_found", "e", "_law_others", "_law_kinds"] ["_law_way", "_law_one", "_law_other"] (defScope s__law_told) := by walk_at "sc"
theorem ok__law_told (A : Facts K mg) (C_rows_added : Q_rows_added P w K mg base) (C_rows_multiplied : Q_rows_multiplied P w K mg base) (F : Fun K "_law_told" "_law_told" s__law_told f fd) : FnOk P w K mg base (CXR P w) 6 f fd ["_law_way", "_law_one", "_law_other"] (spD K 3 F__law_told) :=
  fn_ok 3 4 B__law_told F sc__law_told rfl rfl fun cdv AA outer s H E Z =>
   (dss_cons (ds_set 3 sc__law_told.nd de_non)
    (dss_cons (ds_tryJ 4 Z (dxs_cons (dx_if (dt_cmp (op_eqD Z.rm.units) od_eq (de_var 0) de_int) (dxs_cons (dx_callA 3 Z C_rows_added (da_cons (de_var 1) (da_cons (de_var 2) da_nil))) dxs_nil) (dxs_cons (dx_callA 3 Z C_rows_multiplied (da_cons (de_var 1) (da_cons (de_var 2) da_nil))) dxs_nil)) dxs_nil) A.ck_BelowError A.m_BelowError (fun _ _ => (djs_set 3 sc__law_told.nd de_str
    (djs_set 5 sc__law_told.nd (de_isT A.m_isinstance A.ik_NoCurve_NoName_NoNear_NoNumber_NoRow_NoStretch_NoText (by show 7 ≤ sizeLine; decide) (de_var 4) (pa_cons (pe_glob (v := .ref (ecx .NoCurve)) rfl A.m_NoCurve rfl) (pa_cons (pe_glob (v := .ref (ecx .NoName)) rfl A.m_NoName rfl) (pa_cons (pe_glob (v := .ref (ecx .NoNear)) rfl A.m_NoNear rfl) (pa_cons (pe_glob (v := .ref (ecx .NoNumber)) rfl A.m_NoNumber rfl) (pa_cons (pe_glob (v := .ref (ecx .NoRow)) rfl A.m_NoRow rfl) (pa_cons (pe_glob (v := .ref (ecx .NoStretch)) rfl A.m_NoStretch rfl) (pa_cons (pe_glob (v := .ref (ecx .NoText)) rfl A.m_NoText rfl) pa_nil))))))))
    (djs_if (dtj_of (DW.pt (dw_and (dt_not (dt_val (de_var 5))) (dw_and1 (dt_val (de_isi A.m_isinstance A.ik_ValueError (de_var 4) (pe_bltn (v := .ty "ValueError") rfl A.m_ValueError boot_ValueError rfl))))))) (djs_set 6 sc__law_told.nd (de_lst (da_cons (de_isi A.m_isinstance A.ik_NoPieces (de_var 4) (pe_glob (v := .ref (ecx .NoPieces)) rfl A.m_NoPieces rfl)) (da_cons (de_isi A.m_isinstance A.ik_TooGreat (de_var 4) (pe_glob (v := .ref (ecx .TooGreat)) rfl A.m_TooGreat rfl)) da_nil)))
    (djs_if (dtj_sum 6 rfl A.m_sum) (djs_set 3 sc__law_told.nd (de_ix (de_lst (da_cons de_str (da_cons de_str da_nil))) (de_index (de_var 6)))
    djs_nil (by decide))
    djs_nil) (by decide))
    djs_nil) (by decide)) (by decide))) rfl rfl)
    (dss_one (ds_ret (de_var 3)))))
theorem sc_law : FnScope ["_law_script", "_law_way", "_law_most", "_law_size", "_law_one", "_law_other", "_law_k", "_law_due_here"] ["_law_script"] (defScope s_law) := by walk_at "sc"
theorem ok_law (A : Facts K mg) (C__law_row : Q__law_row P w K mg base) (C__law_cell_at : Q__law_cell_at P w K mg base) (C__law_due : Q__law_due P w K mg base) (C__law_told : Q__law_told P w K mg base) (C_row_of : Q_row_of P w K mg base) (F : Fun K "law" "law" s_law f fd) : FnOk P w K mg base (CXR P w) 7 f fd ["_law_script"] (spD K 1 F_law) :=
  fn_ok 1 7 B_law F sc_law rfl rfl fun cdv AA outer s H E Z =>
   (dss_cons (ds_set 1 sc_law.nd (de_bin op_modN od_mod (de_cal Z C__law_cell_at (da_cons (de_var 0) (da_cons de_int da_nil))) de_int))
    (dss_cons (ds_set 2 sc_law.nd (de_ix (de_lst (da_cons de_int (da_cons de_int (da_cons de_int (da_cons de_int da_nil))))) (de_var 1)))
    (dss_cons (ds_set 3 sc_law.nd (de_ix (de_lst (da_cons de_int (da_cons de_int (da_cons de_int (da_cons de_int da_nil))))) (de_var 1)))
    (dss_cons (ds_set 4 sc_law.nd (de_cal Z C__law_row (da_cons (de_var 0) (da_cons de_int (da_cons (de_var 2) (da_cons (de_var 3) da_nil))))))
    (dss_cons (ds_set 5 sc_law.nd (de_cal Z C__law_row (da_cons (de_var 0) (da_cons de_int (da_cons (de_var 2) (da_cons (de_var 3) da_nil))))))
    (dss_cons (ds_if (DW.pt (dw_and (dt_cmp (op_eqD Z.rm.units) od_eq (de_var 1) de_int) (dw_and1 (dt_cmp (op_eqD Z.rm.units) od_eq (de_bin op_modN od_mod (de_cal Z C__law_cell_at (da_cons (de_var 0) (da_cons de_int da_nil))) de_int) de_int)))) (dss_one (ds_put 5 (de_tup (da_cons (de_ix (de_ix (de_var 5) (de_neg de_int)) de_int) (da_cons (de_tup (da_cons de_int (da_cons de_int da_nil))) (da_cons (de_ix (de_ix (de_var 5) (de_neg de_int)) de_int) da_nil)))) (de_neg de_int))) (dss_one (ds_if (dt_cmp (op_eqD Z.rm.units) od_eq (de_var 1) de_int) (dss_one (ds_put 5 (de_tup (da_cons (de_ix (de_lst (da_cons (de_tup (da_cons (de_neg de_int) (da_cons de_int da_nil))) (da_cons (de_tup (da_cons de_int (da_cons de_int da_nil))) da_nil))) (de_bin op_modN od_mod (de_bin op_fdivW od_fdiv (de_cal Z C__law_cell_at (da_cons (de_var 0) (da_cons de_int da_nil))) de_int) de_int)) (da_cons (de_ix (de_ix (de_var 5) de_int) de_int) (da_cons (de_ix (de_ix (de_var 5) de_int) de_int) da_nil)))) de_int)) dss_nil)))
    (dss_cons (ds_for Z (di_range1 A.m_range (da_cons de_int da_nil)) (dg_name 6 sc_law.nd) (dss_cons (ds_set 7 sc_law.nd (de_cal Z C__law_due (da_cons (de_var 6) (da_cons (de_var 4) (da_cons (de_var 5) da_nil)))))
    (dss_one (ds_if (DW.pt (dw_or (dt_cmp (op_neD Z.rm.units) od_ne (de_cal Z C__law_told (da_cons (de_var 6) (da_cons (de_cal Z C_row_of (da_cons (de_var 4) da_nil)) (da_cons (de_cal Z C_row_of (da_cons (de_var 5) da_nil)) da_nil)))) (de_var 7)) (dw_or1 (dt_cmp (op_neD Z.rm.units) od_ne (de_cal Z C__law_told (da_cons (de_var 6) (da_cons (de_cal Z C_row_of (da_cons (de_var 5) da_nil)) (da_cons (de_cal Z C_row_of (da_cons (de_var 4) da_nil)) da_nil)))) (de_var 7))))) (dss_one (ds_ret de_bl)) dss_nil))))
    (dss_one (ds_ret de_bl)))))))))
end
end Law

set_option Elab.async false
set_option linter.all false
set_option maxRecDepth 100000
set_option maxHeartbeats 1000000
set_option exponentiation.threshold 20000
namespace Law
open PySem L2 L3 D3
local macro_rules | `(tactic| walk_at "ev") => `(tactic| first
  | assumption
  | with_reducible refine ev_f2 ?_ ?_ ?_ <;> walk_at "ev"
  | with_reducible refine ev_fB ?_ ?_ <;> walk_at "ev"
  | with_reducible refine ev_fV ?_ <;> walk_at "ev"
  | with_reducible refine ev_not ?_ <;> walk_at "ev"
  | with_reducible refine ev_fU ?_ ?_ <;> walk_at "ev"
  | with_reducible refine ev_cons ?_ ?_ <;> walk_at "ev"
  | with_reducible refine ev_call ?_ ?_ <;> walk_at "ev"
  | with_reducible exact gEq_int _ _
  | with_reducible exact gNe_int _ _
  | with_reducible exact ix_t0
  | with_reducible exact ix_t1
  | with_reducible refine gMulI ?_ <;> walk_at "sd"
  | with_reducible refine gModP ?_ <;> walk_at "sd"
  | with_reducible refine gFdivP ?_ ?_ <;> walk_at "sd"
  | with_reducible refine gPowI ?_ <;> exact ⟨by decide, by decide, by decide⟩
  | with_reducible refine ev_gF rfl rfl ?_ rfl <;> walk_at "fn"
  | with_reducible rfl
  | rfl)
local macro_rules | `(tactic| walk_at "sd") => `(tactic| first | assumption | omega | decide)
local macro_rules | `(tactic| walk_at "fn") => `(tactic| assumption)
local macro_rules | `(tactic| walk_at "ss") => `(tactic| (simp only [List.set_cons_succ, List.set_cons_zero] <;> rfl))
/-! statements, one after another, as far as no test is open -/
local macro_rules | `(tactic| walk_at "st") => `(tactic| first
  | with_reducible refine ev_sset ?_ rfl ?_ ?_; rotate_left 1; (walk_at "ss"); rotate_left 1)
theorem gd_turn (a b : Int) (r : Sl) (hb : b ≠ 0) : (fSeq (fSet 2 (f2 (gI gMod) (fVar 0) (fVar 1)))
    (fSeq (fSet 0 (fVar 1))
    (fSet 1 (fVar 2)))) [.dat (.int a), .dat (.int b), r] = some (.next [.dat (.int b), .dat (.int (a.fmod b)), .dat (.int (a.fmod b))]) := by
  refine ev_sset (ev_f2 rfl rfl (gModI hb)) rfl (by walk_at "ss") ?_
  refine ev_sset rfl rfl (by walk_at "ss") ?_
  exact ev_set rfl rfl rfl
theorem F_gd (a b : Int) : F_greatest_divisor [.int a, .int b] = okM (.val (.int (Int.gcd a b : Int))) := by
  refine ev_fn rfl ?_
  show B_greatest_divisor [.dat (.int a), .dat (.int b), .no] = _
  unfold B_greatest_divisor
  obtain ⟨δ', e, x, r, rfl, hx⟩ := whN_inv (c := (fB (f2 (gEq true) (fVar 1) (fC (.int 0))))) (b := (fSeq (fSet 2 (f2 (gI gMod) (fVar 0) (fVar 1)))
    (fSeq (fSet 0 (fVar 1))
    (fSet 1 (fVar 2))))) (δ := [.dat (.int a), .dat (.int b), .no])
    (fun δ => ∃ (x y : Int) (r : Sl), δ = [.dat (.int x), .dat (.int y), r] ∧ Int.gcd x y = Int.gcd a b)
    (fun δ => ∃ (x : Int) (r : Sl), δ = [.dat (.int x), .dat (.int 0), r] ∧ Int.gcd x 0 = Int.gcd a b)
    (fun δ => match δ with | [_, .dat (.int y), _] => y.natAbs | _ => 0)
    (by
      rintro δ ⟨x, y, r, rfl, hg⟩
      by_cases hy : y = 0
      · subst hy
        exact .inl ⟨ev_fB (ev_f2 rfl rfl (gNe_int _ _)) rfl, x, r, rfl, hg⟩
      · refine .inr ⟨?_, _, gd_turn x y r hy, ⟨y, x.fmod y, _, rfl, ?_⟩, NB.fmod_lt x y hy⟩
        · have := ev_fB (δ := [.dat (.int x), .dat (.int y), r]) (f := f2 (gEq true) (fVar 1) (fC (.int 0))) (ev_f2 rfl rfl (gNe_int y 0)) rfl
          rw [this, decide_eq_false hy]; rfl
        · rw [NB.gcd_fmod]; exact hg) ⟨a, b, .no, rfl, rfl⟩
  refine ev_seq e ?_
  refine ev_ret (ev_call rfl rfl) ?_
  have e2 : (if x < 0 then -x else x) = (Int.gcd a b : Int) := by
    rw [← hx, Int.gcd_zero_right]
    split <;> omega
  rw [e2]; rfl
theorem gcd_small {t b : Int} (hb : b ≠ 0) (hz : b.natAbs < 2 ^ 9000) : (Int.gcd t b) < 2 ^ 9000 := by
  refine Nat.lt_of_le_of_lt ?_ hz
  have h := Int.natAbs_dvd_natAbs.mpr (Int.gcd_dvd_right t b)
  rw [Int.natAbs_natCast] at h
  exact Nat.le_of_dvd (by omega) h
theorem F_num (t b : Int) (hb : b ≠ 0) (hz : b.natAbs < 2 ^ 9000) : F_number [.int t, .int b] = okM (.val (nD (Rat.divInt t b))) := by
  refine ev_fn rfl ?_
  show B_number [.dat (.int t), .dat (.int b), .no] = _
  unfold B_number
  refine ev_sifF (by rw [ev_fB (ev_f2 rfl rfl (gEq_int b 0)) rfl, decide_eq_false hb]) ?_
  refine ev_snext ?_
  refine ev_sset (ev_call rfl (ev_gF rfl rfl (F_gd t b) rfl)) rfl (by walk_at "ss") ?_
  have gs := gcd_small (t := t) hb hz
  have fin : ∀ d : Int, d = (if b < 0 then -(Int.gcd t b : Int) else (Int.gcd t b : Int)) → (fRet (fCall D3.gTup (fCons (f2 (gI gFdiv) (fVar 0) (fVar 2)) (fCons (f2 (gI gFdiv) (fVar 1) (fVar 2)) fNil)))) [.dat (.int t), .dat (.int b), .dat (.int d)] = some (.ret (.val (nD (Rat.divInt t b)))) := fun d hd => by
    obtain ⟨h0, e1, e2⟩ := NB.num_low t b hb d hd
    have hs : d.natAbs < 2 ^ 9000 := by rw [hd]; split <;> omega
    refine ev_ret (ev_call (ev_cons (ev_f2 rfl rfl (gFdivI h0 hs)) (ev_cons (ev_f2 rfl rfl (gFdivI h0 hs)) rfl)) rfl) ?_
    rw [e1, e2]; rfl
  refine ev_sif (ev_fB (ev_f2 rfl rfl rfl) rfl) (fun c => ?_) (fun c => ?_)
  · have c' : b < 0 := of_decide_eq_true c
    refine ev_sset (ev_fU rfl rfl) rfl (by walk_at "ss") ?_
    exact fin _ (by rw [if_pos c'])
  · have c' : ¬ b < 0 := of_decide_eq_false c
    exact ev_snext (fin _ (by rw [if_neg c']))
/-! curves as lists of fractions -/
def cD (l : List Rat) : PyData := .tuple (l.map nD)
def lD (l : List Rat) : PyData := .list (l.map nD)
theorem noLs_nD : ∀ l : List Rat, noLs (l.map nD) = true
  | [] => by simp [noLs]
  | q :: l => by simp only [List.map_cons, noLs, noL_num, noLs_nD l, Bool.and_self]
theorem noL_cD (l : List Rat) : noL (cD l) = true := by unfold cD noL; exact noLs_nD l
theorem lay_num (q : Rat) : PyData.canLay0 (nD q) = true := by simp [nD, PyData.canLay0, PyData.canLayAll0]
theorem dep_num (q : Rat) : PyData.depth (nD q) ≤ 2 := by simp [nD, PyData.depth, PyData.depthAll]
theorem lay_nums : ∀ l : List Rat, PyData.canLayAll0 (l.map nD) = true
  | [] => by simp [PyData.canLayAll0]
  | q :: l => by simp only [List.map_cons, PyData.canLayAll0, lay_num, lay_nums l, Bool.and_self]
theorem dep_nums : ∀ l : List Rat, PyData.depthAll (l.map nD) ≤ 2
  | [] => by simp [PyData.depthAll]
  | q :: l => by
    have h1 := dep_num q
    have h2 := dep_nums l
    simp only [List.map_cons, PyData.depthAll]
    omega
theorem okD_lD (l : List Rat) : okD (lD l) = true := by
  have h := dep_nums l
  unfold okD SeqAt.shaped lD
  have e : ∀ n : Nat, n ≤ 64 → decide (n ≤ 64) = true := fun n h => decide_eq_true h
  simp only [PyData.canLay0, lay_nums, PyData.depth, Bool.true_and]
  exact e _ (by omega)
theorem eqv_nums : ∀ l m : List Rat, PyData.eqvAll (l.map nD) (m.map nD) = decide (l = m)
  | [], [] => by simp [PyData.eqvAll]
  | [], q :: m => by simp [PyData.eqvAll]
  | q :: l, [] => by simp [PyData.eqvAll]
  | q :: l, p :: m => by
    simp only [List.map_cons, PyData.eqvAll, eqv_num, eqv_nums l m]
    by_cases h1 : q = p <;> by_cases h2 : l = m <;> simp [h1, h2]
theorem eqv_cD (l m : List Rat) : PyData.eqv (cD l) (cD m) = decide (l = m) := by unfold cD; simp only [PyData.eqv]; exact eqv_nums l m
theorem eqv_lD (l m : List Rat) : PyData.eqv (lD l) (lD m) = decide (l = m) := by unfold lD; simp only [PyData.eqv]; exact eqv_nums l m
theorem gEqD {x y : Rz} {d e : PyData} {b : Bool} (hx : x.d? = some d) (hy : y.d? = some e) (od : okD d = true) (oe : okD e = true) (h : PyData.eqv d e = b) : gEq false x y = okM (.dat (.bool b)) := by
  unfold gEq; rw [hx, hy]; dsimp only; rw [if_pos ⟨od, oe⟩, h]; rfl
theorem gNeD {x y : Rz} {d e : PyData} {b : Bool} (hx : x.d? = some d) (hy : y.d? = some e) (od : okD d = true) (oe : okD e = true) (h : PyData.eqv d e = !b) : gEq true x y = okM (.dat (.bool b)) := by
  unfold gEq; rw [hx, hy]; dsimp only; rw [if_pos ⟨od, oe⟩, h]; simp
theorem outZ_num (q : Rat) : outZ (.val (nD q)) = .dat (nD q) := by unfold outZ; dsimp only; rw [if_pos (noL_num q)]
theorem outZ_cur (l : List Rat) : outZ (.val (cD l)) = .dat (cD l) := by unfold outZ; dsimp only; rw [if_pos (noL_cD l)]
theorem get_nD {l : List Rat} {i : Nat} {q : Rat} (h : l[i]? = some q) : (l.map nD)[i]? = some (nD q) := by rw [List.getElem?_map, h]; rfl
/-! worths -/
def ev : List Rat → Rat → Rat
  | [], _ => 0
  | a :: l, x => a + x * ev l x
theorem ev_append (l m : List Rat) (x : Rat) : ev (l ++ m) x = ev l x + x ^ l.length * ev m x := by
  induction l with
  | nil => simp [ev]; grind
  | cons a l ih => simp only [List.cons_append, ev, ih, List.length_cons, Rat.pow_succ]; grind
theorem ev_zeros (n : Nat) (x : Rat) : ev (List.replicate n 0) x = 0 := by
  induction n with
  | zero => rfl
  | succ n ih => simp only [List.replicate_succ, ev, ih]; grind
/-! noughts at the end left out -/
def trim (l : List Rat) : List Rat := (l.reverse.dropWhile (· == 0)).reverse
theorem trim_snoc0 (l : List Rat) : trim (l ++ [0]) = trim l := by unfold trim; simp
theorem trim_snoc {l : List Rat} {a : Rat} (h : a ≠ 0) : trim (l ++ [a]) = l ++ [a] := by
  unfold trim
  simp [h]
theorem trim_zeros (l : List Rat) (n : Nat) : trim (l ++ List.replicate n 0) = trim l := by
  induction n with
  | zero => simp
  | succ n ih => rw [List.replicate_succ', ← List.append_assoc, trim_snoc0, ih]
theorem rev_ind {P : List Rat → Prop} (h0 : P []) (h1 : ∀ l a, P l → P (l ++ [a])) (l : List Rat) : P l := by
  have : ∀ r : List Rat, P r.reverse := fun r => by
    induction r with
    | nil => exact h0
    | cons a r ih => rw [List.reverse_cons]; exact h1 _ a ih
  have := this l.reverse
  rwa [List.reverse_reverse] at this
/-- the list up to its last number that isn't nought -/
theorem trim_ex (l : List Rat) : ∃ n, l = trim l ++ List.replicate n 0 := by
  refine rev_ind (P := fun l => ∃ n, l = trim l ++ List.replicate n 0) ⟨0, rfl⟩ (fun l a ih => ?_) l
  · by_cases h : a = 0
    · subst h
      obtain ⟨n, e⟩ := ih
      refine ⟨n + 1, ?_⟩
      rw [trim_snoc0, List.replicate_succ', ← List.append_assoc, ← e]
    · exact ⟨0, by rw [trim_snoc h]; simp⟩
theorem trim_last (l : List Rat) : trim l = [] ∨ ∃ m a, trim l = m ++ [a] ∧ a ≠ 0 := by
  refine rev_ind (P := fun l => trim l = [] ∨ ∃ m a, trim l = m ++ [a] ∧ a ≠ 0) (.inl rfl) (fun l a ih => ?_) l
  · by_cases h : a = 0
    · subst h; rw [trim_snoc0]; exact ih
    · exact .inr ⟨l, a, trim_snoc h, h⟩
theorem trim_len (l : List Rat) : (trim l).length ≤ l.length := by
  obtain ⟨n, e⟩ := trim_ex l
  have := congrArg List.length e
  rw [List.length_append] at this
  omega
theorem trim_take (l : List Rat) : trim l = l.take (trim l).length := by
  obtain ⟨n, e⟩ := trim_ex l
  have h : l.take (trim l).length = (trim l ++ List.replicate n 0).take (trim l).length := by rw [← e]
  rw [h, List.take_left]

theorem P_plus (p q : Rat) (zp : NB.Sz 4000 p) (zq : NB.Sz 4000 q) : F_plus [nD p, nD q] = okM (.val (nD (p + q))) := by
  refine ev_fn rfl ?_
  show B_plus [.dat (nD p), .dat (nD q)] = _
  unfold B_plus
  have m1 : ∀ {u v : Int}, u.natAbs < 2 ^ 4000 → v.natAbs < 2 ^ 4000 → IntMulOk u v := fun hu hv => mulOk hu hv (by decide)
  have dp : ((p.den : Nat) : Int).natAbs < 2 ^ 4000 := by rw [Int.natAbs_natCast]; exact zp.2
  have dq : ((q.den : Nat) : Int).natAbs < 2 ^ 4000 := by rw [Int.natAbs_natCast]; exact zq.2
  have nz : (p.den : Int) * (q.den : Int) ≠ 0 := by
    have h := Nat.mul_ne_zero p.den_nz q.den_nz
    intro z
    exact h (by exact_mod_cast z)
  have bz : ((p.den : Int) * (q.den : Int)).natAbs < 2 ^ 9000 := by
    rw [Int.natAbs_mul]
    exact Nat.lt_of_lt_of_le (NB.mul_lt (m := 4000) (n := 4000) dp dq) (Nat.pow_le_pow_right (by decide) (by decide))
  refine ev_ret (ev_call (ev_cons (ev_f2 (ev_f2 (ev_f2 rfl rfl ix_t0) (ev_f2 rfl rfl ix_t1) (gMulI (m1 zp.1 dq))) (ev_f2 (ev_f2 rfl rfl ix_t0) (ev_f2 rfl rfl ix_t1) (gMulI (m1 zq.1 dp))) rfl) (ev_cons (ev_f2 (ev_f2 rfl rfl ix_t1) (ev_f2 rfl rfl ix_t1) (gMulI (m1 dp dq))) rfl)) (ev_gF rfl rfl (F_num _ _ nz bz) rfl)) ?_
  rw [NB.plus_eq, outZ_num]; rfl

theorem P_times (p q : Rat) (zp : NB.Sz 4000 p) (zq : NB.Sz 4000 q) : F_times [nD p, nD q] = okM (.val (nD (p * q))) := by
  refine ev_fn rfl ?_
  show B_times [.dat (nD p), .dat (nD q)] = _
  unfold B_times
  have m1 : ∀ {u v : Int}, u.natAbs < 2 ^ 4000 → v.natAbs < 2 ^ 4000 → IntMulOk u v := fun hu hv => mulOk hu hv (by decide)
  have dp : ((p.den : Nat) : Int).natAbs < 2 ^ 4000 := by rw [Int.natAbs_natCast]; exact zp.2
  have dq : ((q.den : Nat) : Int).natAbs < 2 ^ 4000 := by rw [Int.natAbs_natCast]; exact zq.2
  have nz : (p.den : Int) * (q.den : Int) ≠ 0 := by
    have h := Nat.mul_ne_zero p.den_nz q.den_nz
    intro z
    exact h (by exact_mod_cast z)
  have bz : ((p.den : Int) * (q.den : Int)).natAbs < 2 ^ 9000 := by
    rw [Int.natAbs_mul]
    exact Nat.lt_of_lt_of_le (NB.mul_lt (m := 4000) (n := 4000) dp dq) (Nat.pow_le_pow_right (by decide) (by decide))
  refine ev_ret (ev_call (ev_cons (ev_f2 (ev_f2 rfl rfl ix_t0) (ev_f2 rfl rfl ix_t0) (gMulI (m1 zp.1 zq.1))) (ev_cons (ev_f2 (ev_f2 rfl rfl ix_t1) (ev_f2 rfl rfl ix_t1) (gMulI (m1 dp dq))) rfl)) (ev_gF rfl rfl (F_num _ _ nz bz) rfl)) ?_
  rw [NB.times_eq, outZ_num]; rfl

theorem P_sign (q : Rat) : F_sign [nD q] = okM (.val (.int (if 0 < q.num then 1 else if q.num < 0 then -1 else 0))) := by
  refine ev_fn rfl ?_
  show B_sign [.dat (nD q)] = _
  unfold B_sign
  refine ev_sif (ev_fB (ev_f2 (ev_f2 rfl rfl ix_t0) rfl rfl) rfl) (fun c => ?_) (fun c => ?_)
  · have c' : 0 < q.num := of_decide_eq_true c
    rw [if_pos c']; exact ev_sret rfl rfl
  · have c' : ¬ 0 < q.num := of_decide_eq_false c
    rw [if_neg c']
    refine ev_snext (ev_sif (ev_fB (ev_f2 (ev_f2 rfl rfl ix_t0) rfl rfl) rfl) (fun c => ?_) (fun c => ?_))
    · have c' : q.num < 0 := of_decide_eq_true c
      rw [if_pos c']; exact ev_sret (ev_fU rfl rfl) rfl
    · have c' : ¬ q.num < 0 := of_decide_eq_false c
      rw [if_neg c']; exact ev_snext (ev_ret rfl rfl)
theorem sign_zero (q : Rat) : decide ((if 0 < q.num then (1 : Int) else if q.num < 0 then -1 else 0) = 0) = decide (q = 0) := by
  by_cases h : q = 0
  · subst h; rfl
  · have h' : q.num ≠ 0 := fun z => h (Rat.num_eq_zero.mp z)
    rw [decide_eq_false h]
    refine decide_eq_false fun z => h' ?_
    split at z
    · omega
    · split at z <;> omega

theorem cut_upto (ds : List PyData) (k : Nat) (h : k ≤ ds.length) : cutD ds none (some (k : Int)) = ds.take k := by
  unfold cutD
  rw [HT.sIx_none, HT.sIx_nat, Nat.min_eq_left h]; simp
theorem co_loop (l : List Rat) : fWh (fAnd (fB (f2 (gI gGt) (fVar 1) (fC (.int 0)))) (fB (f2 (gEq false) (fCall (gF 1 F_sign) (fCons (f2 gIx (fVar 0) (f2 (gI D3.gSub) (fVar 1) (fC (.int 1)))) fNil)) (fC (.int 0))))) (fSet 1 (f2 (gI D3.gSub) (fVar 1) (fC (.int 1)))) [.dat (lD l), .dat (.int (l.length : Int))]
    = some (.next [.dat (lD l), .dat (.int ((trim l).length : Int))]) := by
  obtain ⟨δ', e, k, rfl, hk⟩ := whN_inv (c := fAnd (fB (f2 (gI gGt) (fVar 1) (fC (.int 0)))) (fB (f2 (gEq false) (fCall (gF 1 F_sign) (fCons (f2 gIx (fVar 0) (f2 (gI D3.gSub) (fVar 1) (fC (.int 1)))) fNil)) (fC (.int 0))))) (b := fSet 1 (f2 (gI D3.gSub) (fVar 1) (fC (.int 1)))) (δ := [.dat (lD l), .dat (.int (l.length : Int))])
    (fun δ => ∃ k : Nat, δ = [.dat (lD l), .dat (.int (k : Int))] ∧ k ≤ l.length ∧ trim (l.take k) = trim l)
    (fun δ => ∃ k : Nat, δ = [.dat (lD l), .dat (.int (k : Int))] ∧ k = (trim l).length)
    (fun δ => match δ with | [_, .dat (.int k)] => k.toNat | _ => 0)
    (by
      rintro δ ⟨k, rfl, hk, ht⟩
      have c1 : fB (f2 (gI gGt) (fVar 1) (fC (.int 0))) [.dat (lD l), .dat (.int (k : Int))] = okM (decide ((0 : Int) < (k : Int))) := ev_fB (ev_f2 rfl rfl rfl) rfl
      cases k with
      | zero =>
        refine .inl ⟨ev_andF c1, 0, rfl, ?_⟩
        rw [← ht]; rfl
      | succ k =>
        have hlt : k < l.length := by omega
        have c1' : fB (f2 (gI gGt) (fVar 1) (fC (.int 0))) [.dat (lD l), .dat (.int ((k + 1 : Nat) : Int))] = okM true := by rw [c1, decide_eq_true (by omega)]
        have c2 : fB (f2 (gEq false) (fCall (gF 1 F_sign) (fCons (f2 gIx (fVar 0) (f2 (gI D3.gSub) (fVar 1) (fC (.int 1)))) fNil)) (fC (.int 0))) [.dat (lD l), .dat (.int ((k + 1 : Nat) : Int))] = okM (decide (l[k] = 0)) := by
          rw [← sign_zero]
          exact ev_fB (ev_f2 (ev_call (ev_cons (ev_f2 rfl (ev_f2 rfl rfl rfl) (ix_lst (j := k) (d := nD l[k]) (by omega) (get_nD (List.getElem?_eq_getElem hlt)))) rfl) (ev_gF rfl rfl (P_sign _) rfl)) rfl (gEq_int _ _)) rfl
        have tk : l.take (k + 1) = l.take k ++ [l[k]] := by rw [List.take_succ, List.getElem?_eq_getElem hlt]; rfl
        by_cases h0 : l[k] = 0
        · refine .inr ⟨ev_andT c1' (by rw [c2, decide_eq_true h0]), [.dat (lD l), .dat (.int (k : Int))], ?_, ⟨k, rfl, by omega, ?_⟩, ?_⟩
          · refine ev_set (ev_f2 rfl rfl rfl) rfl ?_
            have e : ((k + 1 : Nat) : Int) - 1 = (k : Int) := by omega
            rw [e]; rfl
          · rw [← ht, tk, h0, trim_snoc0]
          · show ((k : Int)).toNat < (((k + 1 : Nat) : Int)).toNat
            omega
        · refine .inl ⟨ev_andT c1' (by rw [c2, decide_eq_false h0]), k + 1, rfl, ?_⟩
          rw [← ht, tk, trim_snoc h0, List.length_append, List.length_take, List.length_singleton]
          omega) ⟨l.length, rfl, Nat.le_refl _, by rw [List.take_length]⟩
  rw [e, hk]
theorem P_curve_of (l : List Rat) (h : (trim l).length ≤ 13) : F_curve_of [lD l] = okM (.val (cD (trim l))) := by
  refine ev_fn rfl ?_
  show B_curve_of [.dat (lD l), .no] = _
  unfold B_curve_of
  have hlen : lenOf (.dat (lD l)) = okM (.dat (.int (l.length : Int))) := by
    show okM (Rz.dat (PyData.int ((l.map nD).length : Int))) = _
    rw [List.length_map]
  refine ev_sset (ev_call rfl (show g1 lenOf [Rz.dat (lD l)] = _ from hlen)) rfl (by walk_at "ss") ?_
  refine ev_seq (co_loop l) ?_
  refine ev_sifF (by rw [ev_fB (ev_f2 rfl rfl rfl) rfl, decide_eq_false (by omega)]) (ev_snext ?_)
  have hs : fSl gSlL (fVar 0) fNoP (fPart (fVar 1)) [.dat (lD l), .dat (.int ((trim l).length : Int))] = okM (.new ((trim l).map nD)) := by
    show okM (Rz.new (cutD (l.map nD) none (some ((trim l).length : Int)))) = _
    rw [cut_upto _ _ (by rw [List.length_map]; exact trim_len l), ← List.map_take, ← trim_take]
  exact ev_ret (ev_call (ev_cons hs rfl) rfl) rfl
/-! one way of Horner's scheme, and the way from place k on -/
def hs (c : Rat) : List Rat → List Rat
  | [] => []
  | a :: t => (a - c * (hs c t).headD 0) :: hs c t
theorem hs_len (c : Rat) (l : List Rat) : (hs c l).length = l.length := by
  induction l with
  | nil => rfl
  | cons a t ih => simp only [hs, List.length_cons, ih]
theorem ev_ht (l : List Rat) (x : Rat) : ev l x = l.headD 0 + x * ev l.tail x := by
  cases l with
  | nil => simp only [ev, List.headD_nil, List.tail_nil]; grind
  | cons a t => rfl
theorem hs_ev (c : Rat) (l : List Rat) (x : Rat) : ev l x = (hs c l).headD 0 + (x + c) * ev (hs c l).tail x := by
  induction l with
  | nil => simp only [hs, ev, List.headD_nil, List.tail_nil]; grind
  | cons a t ih =>
    have h := ev_ht (hs c t) x
    simp only [hs, ev, List.headD_cons, List.tail_cons]
    rw [ih, h]
    grind
theorem hs_inj (c : Rat) : ∀ l m : List Rat, hs c l = hs c m → l = m
  | [], [], _ => rfl
  | [], b :: s, h => by simp [hs] at h
  | a :: t, [], h => by simp [hs] at h
  | a :: t, b :: s, h => by
    simp only [hs, List.cons.injEq] at h
    have e := hs_inj c t s h.2
    rw [e] at h
    have : a = b := by grind
    rw [this, e]
theorem ev_inj : ∀ (n : Nat) (l m : List Rat) (N : Nat), l.length = n → m.length = n → (∀ x : Nat, N ≤ x → ev l (x : Rat) = ev m (x : Rat)) → l = m
  | 0, l, m, _, h1, h2, _ => by rw [List.length_eq_zero_iff.mp h1, List.length_eq_zero_iff.mp h2]
  | n + 1, l, m, N, h1, h2, h => by
    have hd : ∀ k : List Rat, ev k (N : Rat) = (hs (-(N : Rat)) k).headD 0 := fun k => by
      have := hs_ev (-(N : Rat)) k (N : Rat)
      rw [this]; grind
    have e0 : (hs (-(N : Rat)) l).headD 0 = (hs (-(N : Rat)) m).headD 0 := by rw [← hd, ← hd]; exact h N (Nat.le_refl _)
    have lt : ∀ k : List Rat, k.length = n + 1 → (hs (-(N : Rat)) k).tail.length = n := fun k hk => by rw [List.length_tail, hs_len, hk]; rfl
    have e1 : (hs (-(N : Rat)) l).tail = (hs (-(N : Rat)) m).tail := by
      refine ev_inj n _ _ (N + 1) (lt l h1) (lt m h2) fun x hx => ?_
      have a1 := hs_ev (-(N : Rat)) l (x : Rat)
      have a2 := hs_ev (-(N : Rat)) m (x : Rat)
      have a3 := h x (by omega)
      have a4 : (x : Rat) + -(N : Rat) ≠ 0 := by
        intro z
        have : (x : Rat) = (N : Rat) := by grind
        have : x = N := by exact_mod_cast this
        omega
      rw [a1, a2, e0] at a3
      have a5 : ((x : Rat) + -(N : Rat)) * (ev (hs (-(N : Rat)) l).tail (x : Rat) - ev (hs (-(N : Rat)) m).tail (x : Rat)) = 0 := by grind
      rcases Rat.mul_eq_zero.mp a5 with z | z
      · exact absurd z a4
      · grind
    refine hs_inj (-(N : Rat)) l m ?_
    have s : ∀ k : List Rat, k.length = n + 1 → hs (-(N : Rat)) k = (hs (-(N : Rat)) k).headD 0 :: (hs (-(N : Rat)) k).tail := fun k hk => by
      cases k with
      | nil => cases hk
      | cons a t => rfl
    rw [s l h1, s m h2, e0, e1]
def hsp (c : Rat) (k : Nat) (l : List Rat) : List Rat := l.take k ++ hs c (l.drop k)
/-! sizes over one bottom -/
def Gz (D : Int) (n : Nat) (q : Rat) : Prop := ∃ t : Int, q * (D : Rat) = (t : Rat) ∧ t.natAbs < 2 ^ n
theorem Gz.zero (D : Int) (n : Nat) : Gz D n 0 := ⟨0, by rw [Rat.zero_mul]; rfl, Nat.pow_pos (by decide)⟩
theorem Gz.sz {D : Int} {n : Nat} {q : Rat} (h : Gz D n q) (h0 : D ≠ 0) (hD : D.natAbs < 2 ^ n) : NB.Sz n q := by
  obtain ⟨t, e, b⟩ := h
  have : q = Rat.divInt t D := by
    rw [Rat.divInt_eq_div, ← e]
    have : (D : Rat) ≠ 0 := by exact_mod_cast h0
    grind
  rw [this]
  exact NB.Sz.divInt h0 b hD
theorem Gz.mono {D : Int} {m n : Nat} {q : Rat} (h : Gz D m q) (hmn : m ≤ n) : Gz D n q := by
  obtain ⟨t, e, b⟩ := h
  exact ⟨t, e, Nat.lt_of_lt_of_le b (Nat.pow_le_pow_right (by decide) hmn)⟩
/-! stretching -/
def st (k : Rat) : Rat → List Rat → List Rat
  | _, [] => []
  | p, a :: t => a / p :: st k (p * k) t
/-! same worths everywhere: the same curve -/
theorem trim_inj {l m : List Rat} (h : ∀ x : Rat, ev l x = ev m x) : trim l = trim m := by
  have e : l ++ List.replicate m.length 0 = m ++ List.replicate l.length 0 := by
    refine ev_inj (l.length + m.length) _ _ 0 (by simp) (by simp; omega) fun x _ => ?_
    rw [ev_append, ev_append, ev_zeros, ev_zeros, h]
    grind
  rw [← trim_zeros l m.length, e, trim_zeros]
theorem ev_scale (a : Rat) (l : List Rat) (x : Rat) : ev (l.map (a * ·)) x = a * ev l x := by
  induction l with
  | nil => simp only [List.map_nil, ev]; grind
  | cons b t ih => simp only [List.map_cons, ev, ih]; grind
theorem rpow_add (x : Rat) (m n : Nat) : x ^ (m + n) = x ^ m * x ^ n := by
  induction n with
  | zero => rw [Nat.add_zero, Rat.pow_zero]; grind
  | succ n ih => rw [← Nat.add_assoc, Rat.pow_succ, Rat.pow_succ, ih]; grind
theorem evSet : ∀ (l : List Rat) (j : Nat) (v u x : Rat), l[j]? = some u → ev (l.set j v) x = ev l x + x ^ j * (v - u)
  | [], j, v, u, x, h => by simp at h
  | a :: t, 0, v, u, x, h => by
    simp at h; subst h
    simp only [List.set_cons_zero, ev, Rat.pow_zero]; grind
  | a :: t, j + 1, v, u, x, h => by
    have ih := evSet t j v u x (by simpa using h)
    simp only [List.set_cons_succ, ev, ih, Rat.pow_succ]; grind
theorem ev_take (b : List Rat) (k : Nat) (v x : Rat) (h : b[k]? = some v) : ev (b.take (k + 1)) x = ev (b.take k) x + x ^ k * v := by
  have hk : k < b.length := by
    by_cases c : k < b.length
    · exact c
    · rw [List.getElem?_eq_none (by omega)] at h; cases h
  have e : b.take (k + 1) = b.take k ++ [v] := by rw [List.take_succ, h]; rfl
  rw [e, ev_append, List.length_take, Nat.min_eq_left (by omega)]
  simp only [ev]; grind
/-! sums by places -/
def addP (s : Rat) : List Rat → List Rat → List Rat
  | [], m => m.map (s * ·)
  | l, [] => l
  | a :: l, b :: m => (a + s * b) :: addP s l m
theorem addP_len (s : Rat) : ∀ l m : List Rat, (addP s l m).length = max l.length m.length
  | [], m => by simp [addP]
  | a :: l, [] => by simp [addP]
  | a :: l, b :: m => by simp only [addP, List.length_cons, addP_len s l m]; omega
theorem addP_get (s : Rat) : ∀ (l m : List Rat) (i : Nat), i < max l.length m.length → (addP s l m)[i]? = some (l.getD i 0 + s * m.getD i 0)
  | [], m, i, h => by
    have hi : i < m.length := by simpa using h
    simp only [addP, List.getElem?_map, List.getElem?_eq_getElem hi, List.getD_eq_getElem?_getD, List.getElem?_nil, Option.map_some, Option.getD_none, Option.getD_some]
    congr 1; grind
  | a :: l, [], i, h => by
    have hi : i < (a :: l).length := by simpa using h
    simp only [addP, List.getElem?_eq_getElem hi, List.getD_eq_getElem?_getD, List.getElem?_nil, Option.getD_none, Option.getD_some]
    congr 1; grind
  | a :: l, b :: m, 0, _ => by simp [addP]
  | a :: l, b :: m, i + 1, h => by
    have ih := addP_get s l m i (by simp at h; omega)
    simpa [addP] using ih
theorem addP_ev (s : Rat) (x : Rat) : ∀ l m : List Rat, ev (addP s l m) x = ev l x + s * ev m x
  | [], m => by simp only [addP, ev_scale, ev]; grind
  | a :: l, [] => by simp only [addP, ev]; grind
  | a :: l, b :: m => by simp only [addP, ev, addP_ev s x l m]; grind
/-! slopes -/
def slF : Nat → List Rat → List Rat
  | _, [] => []
  | k, a :: t => a * (k : Rat) :: slF (k + 1) t
def sl (l : List Rat) : List Rat := slF 1 l.tail
/-! how many noughts -/
theorem tt (l : List Rat) : trim (trim l) = trim l := by
  rcases trim_last l with z | ⟨m, a, e, ha⟩
  · rw [z]; rfl
  · rw [e, trim_snoc ha]
theorem trim_mem {l : List Rat} {v : Rat} (h : v ∈ trim l) : v ∈ l := by
  obtain ⟨n, e⟩ := trim_ex l
  rw [e]; exact List.mem_append_left _ h
/-! sums of squares: the greatest power stays -/
def mulL : List Rat → List Rat → List Rat
  | [], _ => []
  | a :: l, m => addP 1 (m.map (a * ·)) (0 :: mulL l m)
theorem mulL_ev (m : List Rat) (x : Rat) : ∀ l : List Rat, ev (mulL l m) x = ev l x * ev m x
  | [] => by simp only [mulL, ev]; grind
  | a :: l => by simp only [mulL, addP_ev, ev_scale, ev, mulL_ev m x l]; grind
def PT (l : List Rat) : Prop := l = [] ∨ ∃ m a, l = m ++ [a] ∧ 0 < a
theorem len_cD (l : List Rat) : g1 lenOf [Rz.dat (cD l)] = okM (.dat (.int (l.length : Int))) := by
  show okM (Rz.dat (PyData.int ((l.map nD).length : Int))) = _
  rw [List.length_map]
theorem ixN_nat {n k : Nat} {i : Int} (hi : i = (k : Int)) (h : k < n) : L2.ixN n i = some k := by
  subst hi
  unfold L2.ixN
  rw [if_pos (by omega), if_pos (by omega), Int.toNat_natCast]

theorem getE {l : List Rat} {j : Nat} (h : j < l.length) : ∃ v, l[j]? = some v := ⟨l[j], List.getElem?_eq_getElem h⟩

theorem lc_list (fe : List Sl → M Rz) (δ : List Sl) : ∀ (items : List PyData) (l : List Rat), items.length = l.length → (∀ (i : Nat) (d : PyData) (q : Rat), items[i]? = some d → l[i]? = some q → fe (.dat d :: δ) = okM (.dat (nD q))) → lcN fTrue fe δ items = some (l.map nD)
  | [], [], _, _ => rfl
  | [], _ :: _, h, _ => by simp at h
  | _ :: _, [], h, _ => by simp at h
  | d :: r, q :: l, h, hf => by
    have e := hf 0 d q rfl rfl
    have ih := lc_list fe δ r l (by simpa using h) fun i d q h1 h2 => hf (i + 1) d q (by simpa using h1) (by simpa using h2)
    unfold lcN
    show (match fe (.dat d :: δ) with | some (.ok z) => (match datOf z, lcN fTrue fe δ r with | some e, some es => some (e :: es) | _, _ => none) | _ => none) = _
    rw [e]
    show (match some (nD q), lcN fTrue fe δ r with | some e, some es => some (e :: es) | _, _ => none) = _
    rw [ih]; rfl
theorem szD {n : Nat} {l : List Rat} (h : ∀ v ∈ l, NB.Sz n v) (i : Nat) : NB.Sz (n + 1) (l.getD i 0) := by
  rw [List.getD_eq_getElem?_getD]
  cases e : l[i]? with
  | none => exact NB.Sz.zero (by omega)
  | some v => exact (h v (List.mem_of_getElem? e)).mono (by omega)
theorem P_number_at (l : List Rat) (i : Nat) : F_number_at [cD l, .int (i : Int)] = okM (.val (nD (l.getD i 0))) := by
  refine ev_fn rfl ?_
  show B_number_at [.dat (cD l), .dat (.int (i : Int))] = _
  unfold B_number_at
  have c : fB (f2 (gI gLt) (fVar 1) (fCall (g1 lenOf) (fCons (fVar 0) fNil))) [.dat (cD l), .dat (.int (i : Int))] = okM (decide ((i : Int) < (l.length : Int))) := ev_fB (ev_f2 rfl (ev_call rfl (len_cD l)) rfl) rfl
  by_cases h : i < l.length
  · refine ev_sifT (by rw [c, decide_eq_true (by omega)]) (ev_sret (ev_f2 rfl rfl (ix_tup (j := i) (d := nD l[i]) rfl (get_nD (List.getElem?_eq_getElem h)))) ?_)
    rw [List.getD_eq_getElem?_getD, List.getElem?_eq_getElem h]; rfl
  · refine ev_sifF (by rw [c, decide_eq_false (by omega)]) (ev_snext (ev_ret rfl ?_))
    rw [List.getD_eq_getElem?_getD, List.getElem?_eq_none (by omega)]; rfl

theorem P_added (l m : List Rat) (zl : ∀ v ∈ l, NB.Sz 1900 v) (zm : ∀ v ∈ m, NB.Sz 1900 v) (hl : l.length ≤ 1000) (hm : m.length ≤ 1000) (h13 : (trim (addP 1 l m)).length ≤ 13) : F_added [cD l, cD m] = okM (.val (cD (trim (addP 1 l m)))) := by
  refine ev_fn rfl ?_
  show B_added [.dat (cD l), .dat (cD m), .no] = _
  unfold B_added
  have sl : (sizeLine : Nat) = 16777216 := rfl
  obtain ⟨M, hM⟩ : ∃ M : Nat, M = max l.length m.length := ⟨_, rfl⟩
  refine ev_sset (x := .dat (.int (M : Int))) (ev_call (ev_cons (ev_call rfl (len_cD l)) (ev_cons (ev_call rfl (len_cD m)) rfl)) (?_ : g2 (gI gMax) [.dat (.int (l.length : Int)), .dat (.int (m.length : Int))] = okM (.dat (.int (M : Int))))) rfl (by walk_at "ss") ?_
  · show okM (Rz.dat (PyData.int (if (m.length : Int) > (l.length : Int) then (m.length : Int) else (l.length : Int)))) = _
    congr 4
    split <;> omega
  have hLC : (fLC (fR rng1 (fCons (fVar 2) fNil)) fTrue (fCall (gF 2 F_plus) (fCons (fCall (gF 2 F_number_at) (fCons (fVar 1) (fCons (fVar 0) fNil))) (fCons (fCall (gF 2 F_number_at) (fCons (fVar 2) (fCons (fVar 0) fNil))) fNil)))) [.dat (cD l), .dat (cD m), .dat (.int (M : Int))] = okM (.new ((addP 1 l m).map nD)) := by
    unfold fLC
    rw [ev_rng1 (m := M) (ev_cons rfl rfl) (by omega) (by omega) (by omega), bnd_okM, if_pos (by rw [range_len]; omega), lc_list (fCall (gF 2 F_plus) (fCons (fCall (gF 2 F_number_at) (fCons (fVar 1) (fCons (fVar 0) fNil))) (fCons (fCall (gF 2 F_number_at) (fCons (fVar 2) (fCons (fVar 0) fNil))) fNil))) [.dat (cD l), .dat (cD m), .dat (.int (M : Int))] (rangeL 0 M) (addP 1 l m) (by rw [range_len, addP_len, hM]) ?_]
    intro i d q hi hq
    obtain ⟨hi1, rfl⟩ := range_at hi
    rw [addP_get 1 l m i (by omega)] at hq
    cases hq
    have e0 : (0 : Int) + (i : Int) = (i : Int) := by omega
    rw [e0]
    have e1 : l.getD i 0 + 1 * m.getD i 0 = l.getD i 0 + m.getD i 0 := by grind
    rw [e1]
    exact ev_call (ev_cons (ev_call (ev_cons rfl (ev_cons rfl rfl)) (ev_gF rfl rfl (P_number_at l i) (outZ_num _))) (ev_cons (ev_call (ev_cons rfl (ev_cons rfl rfl)) (ev_gF rfl rfl (P_number_at m i) (outZ_num _))) rfl)) (ev_gF rfl rfl (P_plus _ _ ((szD zl i).mono (by decide)) ((szD zm i).mono (by decide))) (outZ_num _))
  exact ev_ret (ev_call (ev_cons hLC rfl) (ev_gF (ds := [lD (addP 1 l m)]) rfl rfl (P_curve_of _ h13) (outZ_cur _))) rfl

theorem mu_turn (q b F : List Rat) (j k : Nat) (u a c : Rat) (hu : F[j + k]? = some u) (ha : q[j]? = some a) (hc : b[k]? = some c) (zu : NB.Sz 2500 u) (za : NB.Sz 600 a) (zc : NB.Sz 600 c) (r5 : Sl) :
    (fSeq (fSet 5 (fCall (gF 2 F_times) (fCons (f2 gIx (fVar 0) (fVar 3)) (fCons (f2 gIx (fVar 1) (fVar 4)) fNil))))
    (fPut 2 (fCall (gF 2 F_plus) (fCons (f2 gIx (fVar 2) (f2 (gI gAdd) (fVar 3) (fVar 4))) (fCons (fVar 5) fNil))) (f2 (gI gAdd) (fVar 3) (fVar 4)))) [.dat (cD q), .dat (cD b), .own ((F).map nD), .dat (.int (j : Int)), .dat (.int (0 + (k : Int))), r5] = some (.next [.dat (cD q), .dat (cD b), .own ((F.set (j + k) (u + a * c)).map nD), .dat (.int (j : Int)), .dat (.int (0 + (k : Int))), .dat (nD (a * c))]) := by
  have e0 : (0 : Int) + (k : Int) = (k : Int) := by omega
  have ej : (j : Int) + (0 + (k : Int)) = ((j + k : Nat) : Int) := by omega
  have hlt : j + k < F.length := by
    by_cases h : j + k < F.length
    · exact h
    · rw [List.getElem?_eq_none (by omega)] at hu; cases hu
  refine ev_sset (x := .dat (nD (a * c))) (ev_call (ev_cons (ev_f2 rfl rfl (ix_tup (j := j) rfl (get_nD ha))) (ev_cons (ev_f2 rfl rfl (ix_tup (j := k) e0 (get_nD hc))) rfl)) (ev_gF rfl rfl (P_times a c (za.mono (by decide)) (zc.mono (by decide))) (outZ_num _))) rfl (by walk_at "ss") ?_
  refine ev_put (x := .dat (nD (u + a * c))) (j := j + k) (ev_call (ev_cons (ev_f2 rfl (ev_f2 rfl rfl rfl) (ix_var (j := j + k) ej (get_nD hu))) (ev_cons rfl rfl)) (ev_gF rfl rfl (P_plus u (a * c) (zu.mono (by decide)) ((za.mul zc).mono (by decide))) (outZ_num _))) rfl (ev_f2 rfl rfl rfl) rfl rfl (ixN_nat ej (by rw [List.length_map]; exact hlt)) ?_
  rw [List.map_set]; rfl
theorem mu_in (q b F : List Rat) (j : Nat) (a : Rat) (ha : q[j]? = some a) (hj : j + b.length ≤ F.length) (hb : b.length ≤ 1000) (Pd Pe : Rat → Prop) (hm : ∀ v, Pd v → Pe v) (hs : ∀ v, Pd v → ∀ c ∈ b, Pe (v + a * c)) (hz : ∀ v, Pd v → NB.Sz 2500 v) (za : NB.Sz 600 a) (zb : ∀ c ∈ b, NB.Sz 600 c) (hP : ∀ v ∈ F, Pd v) (r4 r5 : Sl) :
    ∃ (F' : List Rat) (s4 s5 : Sl), (fFor (fR rng1 (fCons (fCall (g1 lenOf) (fCons (fVar 1) fNil)) fNil)) (tName 4) (fSeq (fSet 5 (fCall (gF 2 F_times) (fCons (f2 gIx (fVar 0) (fVar 3)) (fCons (f2 gIx (fVar 1) (fVar 4)) fNil))))
    (fPut 2 (fCall (gF 2 F_plus) (fCons (f2 gIx (fVar 2) (f2 (gI gAdd) (fVar 3) (fVar 4))) (fCons (fVar 5) fNil))) (f2 (gI gAdd) (fVar 3) (fVar 4))))) [.dat (cD q), .dat (cD b), .own ((F).map nD), .dat (.int (j : Int)), r4, r5] = some (.next [.dat (cD q), .dat (cD b), .own ((F').map nD), .dat (.int (j : Int)), s4, s5]) ∧ F'.length = F.length ∧ (∀ x, ev F' x = ev F x + a * x ^ j * ev b x) ∧ (∀ v ∈ F', Pe v) := by
  obtain ⟨δ', e, F', s4, s5, rfl, e1, e2, e3, e4⟩ := forN_inv (g := tName 4) (b := (fSeq (fSet 5 (fCall (gF 2 F_times) (fCons (f2 gIx (fVar 0) (fVar 3)) (fCons (f2 gIx (fVar 1) (fVar 4)) fNil))))
    (fPut 2 (fCall (gF 2 F_plus) (fCons (f2 gIx (fVar 2) (f2 (gI gAdd) (fVar 3) (fVar 4))) (fCons (fVar 5) fNil))) (f2 (gI gAdd) (fVar 3) (fVar 4))))) (δ := [.dat (cD q), .dat (cD b), .own ((F).map nD), .dat (.int (j : Int)), r4, r5])
    (fun k δ => ∃ (F' : List Rat) (s4 s5 : Sl), δ = [.dat (cD q), .dat (cD b), .own ((F').map nD), .dat (.int (j : Int)), s4, s5] ∧ F'.length = F.length ∧ (∀ x, ev F' x = ev F x + a * x ^ j * ev (b.take k) x) ∧ (∀ v ∈ F', Pe v) ∧ (∀ i, j + k ≤ i → F'[i]? = F[i]?))
    (rangeL 0 b.length) ⟨F, r4, r5, rfl, rfl, fun x => by rw [List.take_zero]; simp only [ev]; grind, fun v hv => hm v (hP v hv), fun i _ => rfl⟩
    (by
      rintro k d δ hd ⟨G, s4, s5, rfl, h1, h2, h3, h4⟩
      obtain ⟨hk, rfl⟩ := range_at hd
      obtain ⟨u, hu⟩ := getE (l := F) (j := j + k) (by omega)
      obtain ⟨c, hc⟩ := getE (l := b) (j := k) hk
      have hGu : G[j + k]? = some u := by rw [h4 _ (Nat.le_refl _), hu]
      have pu := hP u (List.mem_of_getElem? hu)
      have cm := List.mem_of_getElem? hc
      refine ⟨_, _, rfl, .inl (mu_turn q b G j k u a c hGu ha hc (hz u pu) za (zb c cm) _), G.set (j + k) (u + a * c), _, _, rfl, by rw [List.length_set, h1], fun x => ?_, fun w hw => ?_, fun i hi => ?_⟩
      · rw [evSet G (j + k) _ u x hGu, h2, ev_take b k c x hc, rpow_add]; grind
      · rcases List.mem_or_eq_of_mem_set hw with hw | rfl
        · exact h3 w hw
        · exact hs u pu c cm
      · rw [List.getElem?_set_ne (by omega)]; exact h4 i (by omega))
  rw [range_len, List.take_length] at e2
  exact ⟨F', s4, s5, ev_for (ev_rng1 (m := b.length) (ev_cons (ev_call rfl (len_cD b)) rfl) (by omega) (by omega) (by omega)) e, e1, e2, e3⟩
theorem rep_nD (k : Nat) (hk : k ≤ 1000) : gRep (.new [nD 0]) (.dat (.int (k : Int))) = okM (.new ((List.replicate k (0 : Rat)).map nD)) := by
  have sl : (sizeLine : Nat) = 16777216 := rfl
  unfold gRep ownOf Rz.d?
  dsimp only
  rw [if_pos (by refine ⟨by omega, by omega, ?_⟩; simp; omega)]
  have : (List.replicate (k : Int).toNat [nD 0]).flatten = (List.replicate k (0 : Rat)).map nD := by
    rw [Int.toNat_natCast, List.map_replicate]
    clear hk
    induction k with
    | zero => rfl
    | succ k ih => rw [List.replicate_succ, List.flatten_cons, ih, List.replicate_succ]; rfl
  rw [this]
theorem mu_all (q b : List Rat) (Pd : Nat → Rat → Prop) (h0 : Pd 0 0) (hm : ∀ j v, Pd j v → Pd (j + 1) v) (hs : ∀ j v, Pd j v → ∀ a ∈ q, ∀ c ∈ b, Pd (j + 1) (v + a * c)) (hz : ∀ j v, j ≤ q.length → Pd j v → NB.Sz 2500 v)
    (zq : ∀ a ∈ q, NB.Sz 600 a) (zb : ∀ c ∈ b, NB.Sz 600 c) (hq : q.length ≤ 30) (hb : b.length ≤ 30) (q0 : q ≠ []) (b0 : b ≠ []) :
    ∃ F : List Rat, F.length = q.length + b.length - 1 ∧ (∀ x, ev F x = ev q x * ev b x) ∧ (∀ v ∈ F, Pd q.length v) ∧ (∀ o, F_curve_of [lD F] = okM (.val o) → noL o = true → F_multiplied [cD q, cD b] = okM (.val o)) ∧ (∀ C, F_curve_of [lD F] = some (.err C) → F_multiplied [cD q, cD b] = some (.err C)) := by
  have q1 : 0 < q.length := List.length_pos_iff.mpr q0
  have b1 : 0 < b.length := List.length_pos_iff.mpr b0
  obtain ⟨n, hn⟩ : ∃ n : Nat, n = q.length + b.length - 1 := ⟨_, rfl⟩
  obtain ⟨δ2, f, F, s3, s4, s5, rfl, c1, c2, c3⟩ := forN_inv (g := tName 3) (b := (fFor (fR rng1 (fCons (fCall (g1 lenOf) (fCons (fVar 1) fNil)) fNil)) (tName 4) (fSeq (fSet 5 (fCall (gF 2 F_times) (fCons (f2 gIx (fVar 0) (fVar 3)) (fCons (f2 gIx (fVar 1) (fVar 4)) fNil))))
    (fPut 2 (fCall (gF 2 F_plus) (fCons (f2 gIx (fVar 2) (f2 (gI gAdd) (fVar 3) (fVar 4))) (fCons (fVar 5) fNil))) (f2 (gI gAdd) (fVar 3) (fVar 4)))))) (δ := [.dat (cD q), .dat (cD b), .own ((List.replicate n 0).map nD), .no, .no, .no])
    (fun i δ => ∃ (F : List Rat) (s3 s4 s5 : Sl), δ = [.dat (cD q), .dat (cD b), .own ((F).map nD), s3, s4, s5] ∧ F.length = n ∧ (∀ x, ev F x = ev (q.take i) x * ev b x) ∧ (∀ v ∈ F, Pd i v))
    (rangeL 0 q.length) ⟨List.replicate n 0, .no, .no, .no, rfl, by simp, fun x => by rw [ev_zeros, List.take_zero]; simp only [ev]; grind, fun v hv => by rw [List.eq_of_mem_replicate hv]; exact h0⟩
    (by
      rintro j d δ hd ⟨F, s3, s4, s5, rfl, h1, h2, h3⟩
      obtain ⟨hj, rfl⟩ := range_at hd
      obtain ⟨a, ha⟩ := getE (l := q) (j := j) hj
      have am := List.mem_of_getElem? ha
      obtain ⟨F', t4, t5, e, c1, c2, c3⟩ := mu_in q b F j a ha (by omega) (by omega) (Pd j) (Pd (j + 1)) (hm j) (fun v pv c hc => hs j v pv a am c hc) (fun v pv => hz j v (by omega) pv) (zq a am) zb h3 s4 s5
      have e0 : (0 : Int) + (j : Int) = (j : Int) := by omega
      rw [e0]
      refine ⟨_, _, rfl, .inl e, F', _, _, _, rfl, by omega, fun x => ?_, c3⟩
      rw [c2, h2, ev_take q j a x ha]; grind)
  rw [range_len] at c3
  rw [range_len, List.take_length] at c2
  have hc : ∀ (δ : List Sl), δ = [.dat (cD q), .dat (cD b), .no, .no, .no, .no] → fOr (fB (f2 (gEq false) (fCall (g1 lenOf) (fCons (fVar 0) fNil)) (fC (.int 0)))) (fB (f2 (gEq false) (fCall (g1 lenOf) (fCons (fVar 1) fNil)) (fC (.int 0)))) δ = okM false := fun δ hδ => by
    subst hδ
    refine ev_orF (b := false) ?_ ?_
    · have : fB (f2 (gEq false) (fCall (g1 lenOf) (fCons (fVar 0) fNil)) (fC (.int 0))) [.dat (cD q), .dat (cD b), .no, .no, .no, .no] = okM (decide ((q.length : Int) = 0)) := ev_fB (ev_f2 (ev_call rfl (len_cD q)) rfl (gEq_int _ _)) rfl
      rw [this, decide_eq_false (by omega)]
    · have : fB (f2 (gEq false) (fCall (g1 lenOf) (fCons (fVar 1) fNil)) (fC (.int 0))) [.dat (cD q), .dat (cD b), .no, .no, .no, .no] = okM (decide ((b.length : Int) = 0)) := ev_fB (ev_f2 (ev_call rfl (len_cD b)) rfl (gEq_int _ _)) rfl
      rw [this, decide_eq_false (by omega)]
  have pre : ∀ {r : Option Fl}, (fRet (fCall (gF 1 F_curve_of) (fCons (fVar 2) fNil))) [.dat (cD q), .dat (cD b), .own ((F).map nD), s3, s4, s5] = r → B_multiplied [.dat (cD q), .dat (cD b), .no, .no, .no, .no] = r := fun h => by
    unfold B_multiplied
    refine ev_sifF (hc _ rfl) (ev_snext ?_)
    refine ev_sset (x := .new ((List.replicate n (0 : Rat)).map nD)) (ev_f2 (ev_call rfl rfl) (ev_f2 (ev_f2 (ev_call rfl (len_cD q)) (ev_call rfl (len_cD b)) rfl) rfl rfl) ?_) rfl (by walk_at "ss") (ev_seq (ev_for (ev_rng1 (m := q.length) (ev_cons (ev_call rfl (len_cD q)) rfl) (by omega) (by omega) (by omega)) f) h)
    have : (q.length : Int) + (b.length : Int) - 1 = (n : Int) := by omega
    rw [this]; exact rep_nD n (by omega)
  refine ⟨F, by omega, c2, c3, fun o ho no => ev_fn rfl (pre (ev_ret (ev_call rfl (ev_gF (ds := [lD F]) (z := .dat o) rfl rfl ho (by unfold outZ; dsimp only; rw [if_pos no]))) rfl)), fun C hC => ev_fnX rfl (pre ?_)⟩
  have : fCall (gF 1 F_curve_of) (fCons (fVar 2) fNil) [.dat (cD q), .dat (cD b), .own ((F).map nD), s3, s4, s5] = some (.err C) := by
    show gF 1 F_curve_of [Rz.var (F.map nD)] = _
    exact ev_gFX (ds := [lD F]) rfl rfl hC
  unfold fRet
  rw [this]; rfl
/-! what is drawn of the script -/
def scr (ns : List Int) : PyData := .list (ns.map PyData.int)
theorem ev_fI {δ : List Sl} {g : Rz → M (List PyData)} {f : List Sl → M Rz} {x : Rz} {items : List PyData} (h1 : f δ = okM x) (h2 : g x = okM items) : fI g f δ = okM items := by unfold fI; rw [h1, bnd_okM, h2]
theorem range_mem {lo : Int} {m : Nat} {d : PyData} (h : d ∈ rangeL lo m) : ∃ i : Nat, i < m ∧ d = .int (lo + (i : Int)) := by
  obtain ⟨i, hi⟩ := List.getElem?_of_mem h
  obtain ⟨h1, h2⟩ := range_at hi
  exact ⟨i, h1, h2⟩
/-! the law's own helpers: cells, numbers, curves -/
theorem len_scr (ns : List Int) : g1 lenOf [Rz.dat (scr ns)] = okM (.dat (.int (ns.length : Int))) := by
  show okM (Rz.dat (PyData.int ((ns.map PyData.int).length : Int))) = _
  rw [List.length_map]
theorem L_cell (ns : List Int) (k : Int) (h0 : 0 ≤ k) (h1 : k ≤ 1000000) : ∃ c : Int, F__law_cell_at [scr ns, .int k] = okM (.val (.int c)) := by
  have hat : ∀ j : Nat, j < ns.length → (ns.map PyData.int)[j]? = some (.int (ns.getD j 0)) := fun j hj => by
    rw [List.getElem?_map, List.getElem?_eq_getElem hj, List.getD_eq_getElem?_getD, List.getElem?_eq_getElem hj]; rfl
  by_cases c : k < (ns.length : Int)
  · refine ⟨ns.getD k.toNat 0, ev_fn rfl ?_⟩
    show B__law_cell_at [.dat (scr ns), .dat (.int k)] = _
    unfold B__law_cell_at
    refine ev_sifT (by rw [ev_fB (ev_f2 rfl (ev_call rfl (len_scr ns)) rfl) rfl]; exact congrArg okM (decide_eq_true c)) ?_
    exact ev_sret (ev_f2 rfl rfl (ix_lst (j := k.toNat) (by omega) (hat _ (by omega)))) rfl
  · by_cases cn : (ns.length : Int) = 0
    · refine ⟨k * k * 48271 + 7 * k, ev_fn rfl ?_⟩
      show B__law_cell_at [.dat (scr ns), .dat (.int k)] = _
      unfold B__law_cell_at
      refine ev_sifF (by rw [ev_fB (ev_f2 rfl (ev_call rfl (len_scr ns)) rfl) rfl]; exact congrArg okM (decide_eq_false c)) (ev_snext ?_)
      refine ev_sifT (by rw [ev_fB (ev_f2 (ev_call rfl (len_scr ns)) rfl (gEq_int _ _)) rfl]; exact congrArg okM (decide_eq_true cn)) ?_
      exact ev_sret (ev_f2 (ev_f2 (ev_f2 rfl rfl (gMulI (mul_l (by omega) (by omega)))) rfl (gMulI (mul_r (by decide) (by decide)))) (ev_f2 rfl rfl (gMulI (mul_l (by decide) (by decide)))) rfl) rfl
    · have c' : (0 : Int) < (ns.length : Int) := by omega
      have hr1 := Int.emod_nonneg k (b := (ns.length : Int)) (by omega)
      have hr2 := Int.emod_lt_of_pos k c'
      have hd1 : 0 ≤ k / (ns.length : Int) := Int.ediv_nonneg h0 (by omega)
      have hd2 : k / (ns.length : Int) ≤ k := Int.ediv_le_self _ h0
      refine ⟨ns.getD (k % (ns.length : Int)).toNat 0 / (1 + k / (ns.length : Int)) + k * k * 7919, ev_fn rfl ?_⟩
      show B__law_cell_at [.dat (scr ns), .dat (.int k)] = _
      unfold B__law_cell_at
      refine ev_sifF (by rw [ev_fB (ev_f2 rfl (ev_call rfl (len_scr ns)) rfl) rfl]; exact congrArg okM (decide_eq_false c)) (ev_snext ?_)
      refine ev_sifF (by rw [ev_fB (ev_f2 (ev_call rfl (len_scr ns)) rfl (gEq_int _ _)) rfl]; exact congrArg okM (decide_eq_false cn)) (ev_snext ?_)
      exact ev_ret (ev_f2 (ev_f2 (ev_f2 rfl (ev_f2 rfl (ev_call rfl (len_scr ns)) (gModP c')) (ix_lst (j := (k % (ns.length : Int)).toNat) (by omega) (hat _ (by omega)))) (ev_f2 rfl (ev_f2 rfl (ev_call rfl (len_scr ns)) (gFdivP c' (by omega))) rfl) (gFdivP (by omega) (by omega))) (ev_f2 (ev_f2 rfl rfl (gMulI (mul_l (by omega) (by omega)))) rfl (gMulI (mul_r (by decide) (by decide)))) rfl) rfl
theorem ln_loop (t b u v : Int) : ∃ x : Int, Int.gcd x 0 = Int.gcd u v ∧ 0 ≤ x ∧ fWh (fB (f2 (gEq true) (fVar 3) (fC (.int 0)))) (fPar 2 3 (fCons (fVar 3) (fCons (f2 (gI gMod) (fVar 2) (fVar 3)) fNil))) [.dat (.int t), .dat (.int b), .dat (.int (u.natAbs : Int)), .dat (.int (v.natAbs : Int))] = some (.next [.dat (.int t), .dat (.int b), .dat (.int x), .dat (.int 0)]) := by
  obtain ⟨δ', e, x, rfl, hx, h0⟩ := whN_inv (c := fB (f2 (gEq true) (fVar 3) (fC (.int 0)))) (b := fPar 2 3 (fCons (fVar 3) (fCons (f2 (gI gMod) (fVar 2) (fVar 3)) fNil))) (δ := [.dat (.int t), .dat (.int b), .dat (.int (u.natAbs : Int)), .dat (.int (v.natAbs : Int))])
    (fun δ => ∃ (x y : Int), δ = [.dat (.int t), .dat (.int b), .dat (.int x), .dat (.int y)] ∧ Int.gcd x y = Int.gcd u v ∧ 0 ≤ x ∧ 0 ≤ y)
    (fun δ => ∃ (x : Int), δ = [.dat (.int t), .dat (.int b), .dat (.int x), .dat (.int 0)] ∧ Int.gcd x 0 = Int.gcd u v ∧ 0 ≤ x)
    (fun δ => match δ with | [_, _, _, .dat (.int y)] => y.natAbs | _ => 0)
    (by
      rintro δ ⟨x, y, rfl, hg, hx, hy0⟩
      by_cases hy : y = 0
      · subst hy
        exact .inl ⟨ev_fB (ev_f2 rfl rfl (gNe_int _ _)) rfl, x, rfl, hg, hx⟩
      · refine .inr ⟨?_, _, ev_par (ev_cons rfl (ev_cons (ev_f2 rfl rfl (gModI hy)) rfl)) rfl rfl (by walk_at "ss"), ⟨y, x.fmod y, rfl, ?_, hy0, Int.fmod_nonneg hx hy0⟩, NB.fmod_lt x y hy⟩
        · have := ev_fB (δ := [.dat (.int t), .dat (.int b), .dat (.int x), .dat (.int y)]) (f := f2 (gEq true) (fVar 3) (fC (.int 0))) (ev_f2 rfl rfl (gNe_int y 0)) rfl
          rw [this, decide_eq_false hy]; rfl
        · rw [NB.gcd_fmod]; exact hg) ⟨_, _, rfl, by simp [Int.gcd], by omega, by omega⟩
  exact ⟨x, hx, h0, e⟩
theorem L_num (t b : Int) (hb : b ≠ 0) (hz : b.natAbs < 2 ^ 9000) : F__law_num [.int t, .int b] = okM (.val (nD (Rat.divInt t b))) := by
  refine ev_fn rfl ?_
  show B__law_num [.dat (.int t), .dat (.int b), .no, .no] = _
  unfold B__law_num
  have ab : ∀ z : Int, (if z < 0 then -z else z) = (z.natAbs : Int) := fun z => by split <;> omega
  refine ev_seq (ev_par (i := 2) (j := 3) (d := .int (t.natAbs : Int)) (e := .int (b.natAbs : Int)) (ev_cons (x := .dat (.int (t.natAbs : Int))) (ev_call rfl ?_) (ev_cons (x := .dat (.int (b.natAbs : Int))) (ev_call rfl ?_) rfl)) rfl rfl (by walk_at "ss")) ?_
  · rw [← ab t]; rfl
  · rw [← ab b]; rfl
  obtain ⟨x, hx, h0, e⟩ := ln_loop t b t b
  have ex : x = (Int.gcd t b : Int) := by
    rw [← hx, Int.gcd_zero_right]; omega
  subst ex
  refine ev_seq e ?_
  have gs := gcd_small (t := t) hb hz
  have fin : ∀ d : Int, d = (if b < 0 then -(Int.gcd t b : Int) else (Int.gcd t b : Int)) → (fRet (fCall D3.gTup (fCons (f2 (gI gFdiv) (fVar 0) (fVar 2)) (fCons (f2 (gI gFdiv) (fVar 1) (fVar 2)) fNil)))) [.dat (.int t), .dat (.int b), .dat (.int d), .dat (.int 0)] = some (.ret (.val (nD (Rat.divInt t b)))) := fun d hd => by
    obtain ⟨h0, e1, e2⟩ := NB.num_low t b hb d hd
    have hs : d.natAbs < 2 ^ 9000 := by rw [hd]; split <;> omega
    refine ev_ret (ev_call (ev_cons (ev_f2 rfl rfl (gFdivI h0 hs)) (ev_cons (ev_f2 rfl rfl (gFdivI h0 hs)) rfl)) rfl) ?_
    rw [e1, e2]; rfl
  refine ev_sif (ev_fB (ev_f2 rfl rfl rfl) rfl) (fun c => ?_) (fun c => ?_)
  · have c' : b < 0 := of_decide_eq_true c
    refine ev_sset (x := .dat (.int (0 - (Int.gcd t b : Int)))) (ev_f2 rfl rfl rfl) rfl (by walk_at "ss") ?_
    exact fin _ (by rw [if_pos c']; omega)
  · have c' : ¬ b < 0 := of_decide_eq_false c
    exact ev_snext (fin _ (by rw [if_neg c']))
theorem L_plus (p q : Rat) (zp : NB.Sz 4000 p) (zq : NB.Sz 4000 q) : F__law_plus [nD p, nD q] = okM (.val (nD (p + q))) := by
  refine ev_fn rfl ?_
  show B__law_plus [.dat (nD p), .dat (nD q)] = _
  unfold B__law_plus
  have m1 : ∀ {u v : Int}, u.natAbs < 2 ^ 4000 → v.natAbs < 2 ^ 4000 → IntMulOk u v := fun hu hv => mulOk hu hv (by decide)
  have dp : ((p.den : Nat) : Int).natAbs < 2 ^ 4000 := by rw [Int.natAbs_natCast]; exact zp.2
  have dq : ((q.den : Nat) : Int).natAbs < 2 ^ 4000 := by rw [Int.natAbs_natCast]; exact zq.2
  have nz : (p.den : Int) * (q.den : Int) ≠ 0 := by
    have h := Nat.mul_ne_zero p.den_nz q.den_nz
    intro z
    exact h (by exact_mod_cast z)
  have bz : ((p.den : Int) * (q.den : Int)).natAbs < 2 ^ 9000 := by
    rw [Int.natAbs_mul]
    exact Nat.lt_of_lt_of_le (NB.mul_lt (m := 4000) (n := 4000) dp dq) (Nat.pow_le_pow_right (by decide) (by decide))
  refine ev_ret (ev_call (ev_cons (ev_f2 (ev_f2 (ev_f2 rfl rfl ix_t0) (ev_f2 rfl rfl ix_t1) (gMulI (m1 zp.1 dq))) (ev_f2 (ev_f2 rfl rfl ix_t0) (ev_f2 rfl rfl ix_t1) (gMulI (m1 zq.1 dp))) rfl) (ev_cons (ev_f2 (ev_f2 rfl rfl ix_t1) (ev_f2 rfl rfl ix_t1) (gMulI (m1 dp dq))) rfl)) (ev_gF rfl rfl (L_num _ _ nz bz) rfl)) ?_
  rw [NB.plus_eq, outZ_num]; rfl
theorem L_times (p q : Rat) (zp : NB.Sz 4000 p) (zq : NB.Sz 4000 q) : F__law_times [nD p, nD q] = okM (.val (nD (p * q))) := by
  refine ev_fn rfl ?_
  show B__law_times [.dat (nD p), .dat (nD q)] = _
  unfold B__law_times
  have m1 : ∀ {u v : Int}, u.natAbs < 2 ^ 4000 → v.natAbs < 2 ^ 4000 → IntMulOk u v := fun hu hv => mulOk hu hv (by decide)
  have dp : ((p.den : Nat) : Int).natAbs < 2 ^ 4000 := by rw [Int.natAbs_natCast]; exact zp.2
  have dq : ((q.den : Nat) : Int).natAbs < 2 ^ 4000 := by rw [Int.natAbs_natCast]; exact zq.2
  have nz : (p.den : Int) * (q.den : Int) ≠ 0 := by
    have h := Nat.mul_ne_zero p.den_nz q.den_nz
    intro z
    exact h (by exact_mod_cast z)
  have bz : ((p.den : Int) * (q.den : Int)).natAbs < 2 ^ 9000 := by
    rw [Int.natAbs_mul]
    exact Nat.lt_of_lt_of_le (NB.mul_lt (m := 4000) (n := 4000) dp dq) (Nat.pow_le_pow_right (by decide) (by decide))
  refine ev_ret (ev_call (ev_cons (ev_f2 (ev_f2 rfl rfl ix_t0) (ev_f2 rfl rfl ix_t0) (gMulI (m1 zp.1 zq.1))) (ev_cons (ev_f2 (ev_f2 rfl rfl ix_t1) (ev_f2 rfl rfl ix_t1) (gMulI (m1 dp dq))) rfl)) (ev_gF rfl rfl (L_num _ _ nz bz) rfl)) ?_
  rw [NB.times_eq, outZ_num]; rfl
/-! noughts at the end left out -/
theorem ix_at {ds : List PyData} {i : Int} {d : PyData} (h : L2.atI ds i = some d) : gIx (.var ds) (.dat (.int i)) = okM (.dat d) := by
  unfold gIx seqOf Rz.d?; dsimp only; rw [h]; rfl
theorem at_last (r : List Rat) (a : Rat) : L2.atI ((r ++ [a]).map nD) (-1) = some (nD a) := by
  unfold L2.atI L2.ixN
  have e1 : ((r ++ [a]).map nD).length = r.length + 1 := by simp
  rw [e1, if_neg (by omega), if_pos (by omega)]
  have e2 : (-1 + ((r.length + 1 : Nat) : Int)).toNat = r.length := by omega
  show ((r ++ [a]).map nD)[(-1 + ((r.length + 1 : Nat) : Int)).toNat]? = _
  rw [e2, List.map_append, List.getElem?_append_right (by simp)]
  simp
theorem cl_loop (s0 : Sl) : ∀ l : List Rat, fWh (fAnd (fB (f2 (gEq true) (fVar 1) (fCall D3.gLst fNil))) (fB (f2 (gEq false) (f2 gIx (f2 gIx (fVar 1) (fU negOf (fC (.int 1)))) (fC (.int 0))) (fC (.int 0))))) (fPop 1) [s0, .own (l.map nD)] = some (.next [s0, .own ((trim l).map nD)]) := by
  intro l
  have hne : ∀ l : List Rat, fB (f2 (gEq true) (fVar 1) (fCall D3.gLst fNil)) [s0, .own (l.map nD)] = okM (!decide (l = [])) := fun l => by
    refine ev_fB (ev_f2 rfl (ev_call rfl rfl) (gNeD (d := lD l) (e := lD []) rfl rfl (okD_lD l) (okD_lD []) ?_)) rfl
    rw [eqv_lD, Bool.not_not]
  obtain ⟨δ', e, m, rfl, hm, h0⟩ := whN_inv (c := (fAnd (fB (f2 (gEq true) (fVar 1) (fCall D3.gLst fNil))) (fB (f2 (gEq false) (f2 gIx (f2 gIx (fVar 1) (fU negOf (fC (.int 1)))) (fC (.int 0))) (fC (.int 0)))))) (b := fPop 1) (δ := [s0, .own (l.map nD)])
    (fun δ => ∃ m : List Rat, δ = [s0, .own (m.map nD)] ∧ trim m = trim l)
    (fun δ => ∃ m : List Rat, δ = [s0, .own (m.map nD)] ∧ trim m = trim l ∧ trim m = m)
    (fun δ => match δ with | [_, .own d] => d.length | _ => 0)
    (by
      rintro δ ⟨m, rfl, hm⟩
      rcases List.eq_nil_or_concat m with rfl | ⟨r, a, rfl⟩
      · exact .inl ⟨ev_andF (by rw [hne]; rfl), [], rfl, hm, rfl⟩
      · rw [List.concat_eq_append] at hm ⊢
        have hlast : L2.atI ((r ++ [a]).map nD) (-1) = some (nD a) := by
          exact at_last r a
        have hsec : fB (f2 (gEq false) (f2 gIx (f2 gIx (fVar 1) (fU negOf (fC (.int 1)))) (fC (.int 0))) (fC (.int 0))) [s0, .own ((r ++ [a]).map nD)] = okM (decide (a.num = 0)) := by
          refine ev_fB (ev_f2 (ev_f2 (x := .dat (nD a)) (ev_f2 rfl rfl ?_) rfl ix_t0) rfl (gEq_int _ _)) rfl
          show gIx (.var ((r ++ [a]).map nD)) (.dat (.int (-1))) = _
          exact ix_at hlast
        have hfst : fB (f2 (gEq true) (fVar 1) (fCall D3.gLst fNil)) [s0, .own ((r ++ [a]).map nD)] = okM true := by
          rw [hne, decide_eq_false (by simp)]; rfl
        by_cases ha : a = 0
        · subst ha
          refine .inr ⟨ev_andT hfst (by rw [hsec]; rfl), _, ev_pop rfl (by simp) rfl, ⟨r, ?_, ?_⟩, ?_⟩
          · simp [List.map_append, List.dropLast_concat]
          · rw [trim_snoc0] at hm; exact hm
          · simp [List.dropLast_concat]
        · refine .inl ⟨ev_andT hfst (by rw [hsec]; exact congrArg okM (decide_eq_false fun z => ha (Rat.num_eq_zero.mp z))), r ++ [a], rfl, hm, trim_snoc ha⟩) ⟨l, rfl, rfl⟩
  rw [e, ← hm, h0]
theorem L_clean (l : List Rat) : F__law_clean [lD l] = okM (.val (cD (trim l))) := by
  refine ev_fn rfl ?_
  show B__law_clean [.dat (lD l), .no] = _
  unfold B__law_clean
  refine ev_sset (x := .new (l.map nD)) (ev_call rfl rfl) rfl (by walk_at "ss") ?_
  exact ev_seq (cl_loop _ l) (ev_ret (ev_call rfl rfl) rfl)
/-! sums and products of curves, as the law makes them -/
theorem evz {δ : List Sl} {f : List Sl → M Rz} {x : Rz} (h : f δ = okM x) : fFz f δ = okM (fzOf x) := by unfold fFz; rw [h]; rfl
theorem lc_any {α : Type} (mk g : α → PyData) (fe : List Sl → M Rz) (δ : List Sl) : ∀ (l : List α), (∀ p ∈ l, ∃ z, fe (.dat (mk p) :: δ) = okM z ∧ datOf z = some (g p)) → lcN fTrue fe δ (l.map mk) = some (l.map g)
  | [], _ => rfl
  | p :: r, h => by
    obtain ⟨z, e, hz⟩ := h p (List.mem_cons_self ..)
    have h3 := lc_any mk g fe δ r fun d hd => h d (List.mem_cons_of_mem _ hd)
    rw [List.map_cons]
    unfold lcN
    show (match fe (.dat (mk p) :: δ) with | some (.ok z) => (match datOf z, lcN fTrue fe δ (r.map mk) with | some e, some es => some (e :: es) | _, _ => none) | _ => none) = _
    rw [e]
    show (match datOf z, lcN fTrue fe δ (r.map mk) with | some e, some es => some (e :: es) | _, _ => none) = _
    rw [hz, h3]; rfl
def pad (M : Nat) (l : List Rat) : List Rat := l ++ List.replicate (M - l.length) 0
theorem pad_at {M : Nat} {l : List Rat} {i : Nat} (hl : l.length ≤ M) (hi : i < M) : (pad M l)[i]? = some (l.getD i 0) := by
  unfold pad
  by_cases c : i < l.length
  · rw [List.getElem?_append_left c, List.getElem?_eq_getElem c, List.getD_eq_getElem?_getD, List.getElem?_eq_getElem c]; rfl
  · rw [List.getElem?_append_right (by omega), List.getElem?_replicate, if_pos (by omega), List.getD_eq_getElem?_getD, List.getElem?_eq_none (by omega)]; rfl
theorem L_sum (l m : List Rat) (zl : ∀ v ∈ l, NB.Sz 1900 v) (zm : ∀ v ∈ m, NB.Sz 1900 v) (hl : l.length ≤ 1000) (hm : m.length ≤ 1000) : F__law_sum [cD l, cD m] = okM (.val (cD (trim (addP 1 l m)))) := by
  refine ev_fn rfl ?_
  show B__law_sum [.dat (cD l), .dat (cD m), .no, .no] = _
  unfold B__law_sum
  have sl : (sizeLine : Nat) = 16777216 := rfl
  obtain ⟨M, hM⟩ : ∃ M : Nat, M = max l.length m.length := ⟨_, rfl⟩
  refine ev_sset (x := .dat (.int (M : Int))) (ev_call (ev_cons (ev_call rfl (len_cD l)) (ev_cons (ev_call rfl (len_cD m)) rfl)) (?_ : g2 (gI gMax) [.dat (.int (l.length : Int)), .dat (.int (m.length : Int))] = okM (.dat (.int (M : Int))))) rfl (by walk_at "ss") ?_
  · show okM (Rz.dat (PyData.int (if (m.length : Int) > (l.length : Int) then (m.length : Int) else (l.length : Int)))) = _
    congr 4
    split <;> omega
  have h1 : (fLC (fI itemsL (fCall D3.gLst (fCons (fVar 0) (fCons (fVar 1) fNil)))) fTrue (fFz (f2 gCat (fCall (g1 D3.listOf) (fCons (fVar 0) fNil)) (f2 gRep (fCall D3.gLst (fCons (fCall D3.gTup (fCons (fC (.int 0)) (fCons (fC (.int 1)) fNil))) fNil)) (f2 (gI D3.gSub) (fVar 3) (fCall (g1 lenOf) (fCons (fVar 0) fNil))))))) [.dat (cD l), .dat (cD m), .dat (.int (M : Int)), .no] = okM (.new [lD (pad M l), lD (pad M m)]) := by
    unfold fLC
    rw [ev_fI (items := [l, m].map cD) (ev_call rfl rfl) rfl, bnd_okM, if_pos (by rw [List.length_map]; show (2 : Nat) < _; omega), lc_any cD (fun p => lD (pad M p)) _ _ [l, m] ?_]
    · rfl
    intro p hp
    have hp2 : p.length ≤ M := by
      rcases List.mem_cons.mp hp with rfl | hp
      · omega
      · rcases List.mem_cons.mp hp with rfl | hp
        · omega
        · cases hp
    refine ⟨.dat (lD (pad M p)), evz (x := .new ((pad M p).map nD)) (ev_f2 (x := .new (p.map nD)) (y := .new ((List.replicate (M - p.length) (0 : Rat)).map nD)) (ev_call rfl rfl) (ev_f2 (ev_call rfl rfl) (ev_f2 rfl (ev_call rfl (len_cD p)) rfl) ?_) ?_), rfl⟩
    · have : (M : Int) - (p.length : Int) = ((M - p.length : Nat) : Int) := by omega
      rw [this]; exact rep_nD _ (by omega)
    · unfold gCat ownOf
      dsimp only
      rw [if_pos (by simp; omega), ← List.map_append]; rfl
  refine ev_sset h1 rfl (by walk_at "ss") ?_
  have hLC : (fLC (fR rng1 (fCons (fVar 2) fNil)) fTrue (fCall (gF 2 F__law_plus) (fCons (f2 gIx (f2 gIx (fVar 4) (fC (.int 0))) (fVar 0)) (fCons (f2 gIx (f2 gIx (fVar 4) (fC (.int 1))) (fVar 0)) fNil)))) [.dat (cD l), .dat (cD m), .dat (.int (M : Int)), .own [lD (pad M l), lD (pad M m)]] = okM (.new ((addP 1 l m).map nD)) := by
    unfold fLC
    rw [ev_rng1 (m := M) (ev_cons rfl rfl) (by omega) (by omega) (by omega), bnd_okM, if_pos (by rw [range_len]; omega), lc_list _ _ (rangeL 0 M) (addP 1 l m) (by rw [range_len, addP_len, hM]) ?_]
    intro i d q hi hq
    obtain ⟨hi1, rfl⟩ := range_at hi
    rw [addP_get 1 l m i (by omega)] at hq
    cases hq
    have e0 : (0 : Int) + (i : Int) = (i : Int) := by omega
    rw [e0, Rat.one_mul]
    exact ev_call (ev_cons (ev_f2 (ev_f2 rfl rfl (ix_var (j := 0) rfl rfl)) rfl (ix_lst (j := i) rfl (get_nD (pad_at (by omega) hi1)))) (ev_cons (ev_f2 (ev_f2 rfl rfl (ix_var (j := 1) rfl rfl)) rfl (ix_lst (j := i) rfl (get_nD (pad_at (by omega) hi1)))) rfl)) (ev_gF rfl rfl (L_plus _ _ ((szD zl i).mono (by decide)) ((szD zm i).mono (by decide))) (outZ_num _))
  exact ev_ret (ev_call (ev_cons hLC rfl) (ev_gF (ds := [lD (addP 1 l m)]) rfl rfl (L_clean _) (outZ_cur _))) rfl
theorem lm_turn (q b F : List Rat) (j k : Nat) (u a c : Rat) (hu : F[j + k]? = some u) (ha : q[j]? = some a) (hc : b[k]? = some c) (zu : NB.Sz 2500 u) (za : NB.Sz 600 a) (zc : NB.Sz 600 c) :
    (fPut 2 (fCall (gF 2 F__law_plus) (fCons (f2 gIx (fVar 2) (f2 (gI gAdd) (fVar 3) (fVar 4))) (fCons (fCall (gF 2 F__law_times) (fCons (f2 gIx (fVar 0) (fVar 3)) (fCons (f2 gIx (fVar 1) (fVar 4)) fNil))) fNil))) (f2 (gI gAdd) (fVar 3) (fVar 4))) [.dat (cD q), .dat (cD b), .own ((F).map nD), .dat (.int (j : Int)), .dat (.int (0 + (k : Int)))] = some (.next [.dat (cD q), .dat (cD b), .own ((F.set (j + k) (u + a * c)).map nD), .dat (.int (j : Int)), .dat (.int (0 + (k : Int)))]) := by
  have e0 : (0 : Int) + (k : Int) = (k : Int) := by omega
  have ej : (j : Int) + (0 + (k : Int)) = ((j + k : Nat) : Int) := by omega
  have hlt : j + k < F.length := by
    by_cases h : j + k < F.length
    · exact h
    · rw [List.getElem?_eq_none (by omega)] at hu; cases hu
  refine ev_put (x := .dat (nD (u + a * c))) (j := j + k) (ev_call (ev_cons (ev_f2 rfl (ev_f2 rfl rfl rfl) (ix_var (j := j + k) ej (get_nD hu))) (ev_cons (ev_call (ev_cons (ev_f2 rfl rfl (ix_tup (j := j) rfl (get_nD ha))) (ev_cons (ev_f2 rfl rfl (ix_tup (j := k) e0 (get_nD hc))) rfl)) (ev_gF rfl rfl (L_times a c (za.mono (by decide)) (zc.mono (by decide))) (outZ_num _))) rfl)) (ev_gF rfl rfl (L_plus u (a * c) (zu.mono (by decide)) ((za.mul zc).mono (by decide))) (outZ_num _))) rfl (ev_f2 rfl rfl rfl) rfl rfl (ixN_nat ej (by rw [List.length_map]; exact hlt)) ?_
  rw [List.map_set]; rfl
theorem lm_in (q b F : List Rat) (j : Nat) (a : Rat) (ha : q[j]? = some a) (hj : j + b.length ≤ F.length) (hb : b.length ≤ 1000) (Pd Pe : Rat → Prop) (hm : ∀ v, Pd v → Pe v) (hs : ∀ v, Pd v → ∀ c ∈ b, Pe (v + a * c)) (hz : ∀ v, Pd v → NB.Sz 2500 v) (za : NB.Sz 600 a) (zb : ∀ c ∈ b, NB.Sz 600 c) (hP : ∀ v ∈ F, Pd v) (r4 : Sl) :
    ∃ (F' : List Rat) (s4 : Sl), (fFor (fR rng1 (fCons (fCall (g1 lenOf) (fCons (fVar 1) fNil)) fNil)) (tName 4) (fPut 2 (fCall (gF 2 F__law_plus) (fCons (f2 gIx (fVar 2) (f2 (gI gAdd) (fVar 3) (fVar 4))) (fCons (fCall (gF 2 F__law_times) (fCons (f2 gIx (fVar 0) (fVar 3)) (fCons (f2 gIx (fVar 1) (fVar 4)) fNil))) fNil))) (f2 (gI gAdd) (fVar 3) (fVar 4)))) [.dat (cD q), .dat (cD b), .own ((F).map nD), .dat (.int (j : Int)), r4] = some (.next [.dat (cD q), .dat (cD b), .own ((F').map nD), .dat (.int (j : Int)), s4]) ∧ F'.length = F.length ∧ (∀ x, ev F' x = ev F x + a * x ^ j * ev b x) ∧ (∀ v ∈ F', Pe v) := by
  obtain ⟨δ', e, F', s4, rfl, e1, e2, e3, e4⟩ := forN_inv (g := tName 4) (b := (fPut 2 (fCall (gF 2 F__law_plus) (fCons (f2 gIx (fVar 2) (f2 (gI gAdd) (fVar 3) (fVar 4))) (fCons (fCall (gF 2 F__law_times) (fCons (f2 gIx (fVar 0) (fVar 3)) (fCons (f2 gIx (fVar 1) (fVar 4)) fNil))) fNil))) (f2 (gI gAdd) (fVar 3) (fVar 4)))) (δ := [.dat (cD q), .dat (cD b), .own ((F).map nD), .dat (.int (j : Int)), r4])
    (fun k δ => ∃ (F' : List Rat) (s4 : Sl), δ = [.dat (cD q), .dat (cD b), .own ((F').map nD), .dat (.int (j : Int)), s4] ∧ F'.length = F.length ∧ (∀ x, ev F' x = ev F x + a * x ^ j * ev (b.take k) x) ∧ (∀ v ∈ F', Pe v) ∧ (∀ i, j + k ≤ i → F'[i]? = F[i]?))
    (rangeL 0 b.length) ⟨F, r4, rfl, rfl, fun x => by rw [List.take_zero]; simp only [ev]; grind, fun v hv => hm v (hP v hv), fun i _ => rfl⟩
    (by
      rintro k d δ hd ⟨G, s4, rfl, h1, h2, h3, h4⟩
      obtain ⟨hk, rfl⟩ := range_at hd
      obtain ⟨u, hu⟩ := getE (l := F) (j := j + k) (by omega)
      obtain ⟨c, hc⟩ := getE (l := b) (j := k) hk
      have hGu : G[j + k]? = some u := by rw [h4 _ (Nat.le_refl _), hu]
      have pu := hP u (List.mem_of_getElem? hu)
      have cm := List.mem_of_getElem? hc
      refine ⟨_, _, rfl, .inl (lm_turn q b G j k u a c hGu ha hc (hz u pu) za (zb c cm)), G.set (j + k) (u + a * c), _, rfl, by rw [List.length_set, h1], fun x => ?_, fun w hw => ?_, fun i hi => ?_⟩
      · rw [evSet G (j + k) _ u x hGu, h2, ev_take b k c x hc, rpow_add]; grind
      · rcases List.mem_or_eq_of_mem_set hw with hw | rfl
        · exact h3 w hw
        · exact hs u pu c cm
      · rw [List.getElem?_set_ne (by omega)]; exact h4 i (by omega))
  rw [range_len, List.take_length] at e2
  exact ⟨F', s4, ev_for (ev_rng1 (m := b.length) (ev_cons (ev_call rfl (len_cD b)) rfl) (by omega) (by omega) (by omega)) e, e1, e2, e3⟩
theorem L_product (q b : List Rat) (Pd : Nat → Rat → Prop) (h0 : Pd 0 0) (hm : ∀ j v, Pd j v → Pd (j + 1) v) (hs : ∀ j v, Pd j v → ∀ a ∈ q, ∀ c ∈ b, Pd (j + 1) (v + a * c)) (hz : ∀ j v, j ≤ q.length → Pd j v → NB.Sz 2500 v)
    (zq : ∀ a ∈ q, NB.Sz 600 a) (zb : ∀ c ∈ b, NB.Sz 600 c) (hq : q.length ≤ 30) (hb : b.length ≤ 30) (q0 : q ≠ []) (b0 : b ≠ []) :
    ∃ F : List Rat, F.length = q.length + b.length - 1 ∧ (∀ x, ev F x = ev q x * ev b x) ∧ (∀ v ∈ F, Pd q.length v) ∧ F__law_product [cD q, cD b] = okM (.val (cD (trim F))) := by
  have q1 : 0 < q.length := List.length_pos_iff.mpr q0
  have b1 : 0 < b.length := List.length_pos_iff.mpr b0
  obtain ⟨n, hn⟩ : ∃ n : Nat, n = q.length + b.length - 1 := ⟨_, rfl⟩
  obtain ⟨δ2, f, F, s3, s4, rfl, c1, c2, c3⟩ := forN_inv (g := tName 3) (b := (fFor (fR rng1 (fCons (fCall (g1 lenOf) (fCons (fVar 1) fNil)) fNil)) (tName 4) (fPut 2 (fCall (gF 2 F__law_plus) (fCons (f2 gIx (fVar 2) (f2 (gI gAdd) (fVar 3) (fVar 4))) (fCons (fCall (gF 2 F__law_times) (fCons (f2 gIx (fVar 0) (fVar 3)) (fCons (f2 gIx (fVar 1) (fVar 4)) fNil))) fNil))) (f2 (gI gAdd) (fVar 3) (fVar 4))))) (δ := [.dat (cD q), .dat (cD b), .own ((List.replicate n 0).map nD), .no, .no])
    (fun i δ => ∃ (F : List Rat) (s3 s4 : Sl), δ = [.dat (cD q), .dat (cD b), .own ((F).map nD), s3, s4] ∧ F.length = n ∧ (∀ x, ev F x = ev (q.take i) x * ev b x) ∧ (∀ v ∈ F, Pd i v))
    (rangeL 0 q.length) ⟨List.replicate n 0, .no, .no, rfl, by simp, fun x => by rw [ev_zeros, List.take_zero]; simp only [ev]; grind, fun v hv => by rw [List.eq_of_mem_replicate hv]; exact h0⟩
    (by
      rintro j d δ hd ⟨F, s3, s4, rfl, h1, h2, h3⟩
      obtain ⟨hj, rfl⟩ := range_at hd
      obtain ⟨a, ha⟩ := getE (l := q) (j := j) hj
      have am := List.mem_of_getElem? ha
      obtain ⟨F', t4, e, c1, c2, c3⟩ := lm_in q b F j a ha (by omega) (by omega) (Pd j) (Pd (j + 1)) (hm j) (fun v pv c hc => hs j v pv a am c hc) (fun v pv => hz j v (by omega) pv) (zq a am) zb h3 s4
      have e0 : (0 : Int) + (j : Int) = (j : Int) := by omega
      rw [e0]
      refine ⟨_, _, rfl, .inl e, F', _, _, rfl, by omega, fun x => ?_, c3⟩
      rw [c2, h2, ev_take q j a x ha]; grind)
  rw [range_len] at c3
  rw [range_len, List.take_length] at c2
  refine ⟨F, by omega, c2, c3, ev_fn rfl ?_⟩
  show B__law_product [.dat (cD q), .dat (cD b), .no, .no, .no] = _
  unfold B__law_product
  refine ev_sset (x := .new ((List.replicate n (0 : Rat)).map nD)) (ev_f2 (y := .dat (.int (n : Int))) (ev_call rfl rfl) (ev_call (ev_cons rfl (ev_cons (ev_f2 (ev_f2 (ev_call rfl (len_cD q)) (ev_call rfl (len_cD b)) rfl) rfl rfl) rfl)) ?_) (rep_nD n (by omega))) rfl (by walk_at "ss") (ev_seq (ev_for (ev_rng1 (m := q.length) (ev_cons (ev_call rfl (len_cD q)) rfl) (by omega) (by omega) (by omega)) f) (ev_ret (ev_call rfl (ev_gF (ds := [lD F]) rfl rfl (L_clean F) (outZ_cur _))) rfl))
  show okM (Rz.dat (PyData.int (if (q.length : Int) + (b.length : Int) - 1 > 0 then (q.length : Int) + (b.length : Int) - 1 else 0))) = _
  congr 4
  split <;> omega
/-! pieces as data -/
def pD (p : Rat × Rat × List Rat) : PyData := .tuple [nD p.1, nD p.2.1, cD p.2.2]
theorem noL_pD (p : Rat × Rat × List Rat) : noL (pD p) = true := by
  unfold pD noL noLs
  simp only [noL_num, noL_cD, noLs, Bool.and_self]
theorem noLs_pD : ∀ l : List (Rat × Rat × List Rat), noLs (l.map pD) = true
  | [] => rfl
  | p :: r => by rw [List.map_cons]; unfold noLs; rw [noL_pD, noLs_pD r]; rfl
/-! rows: what is looked at when a row is made -/
theorem ev_fnN {n m : Nat} {f : List Sl → Option Fl} {ds : List PyData} {δ' : List Sl} (hl : ds.length = n) (h : f (ds.map Sl.dat ++ List.replicate m Sl.no) = some (.next δ')) : fnD n m f ds = okM (.val .none) := by unfold fnD; rw [if_pos hl, h]; rfl
theorem ev_drop {δ : List Sl} {f : List Sl → M Rz} {x : Rz} (h : f δ = okM x) : fDrop f δ = some (.next δ) := by unfold fDrop; rw [h]; rfl
theorem ev_dropX {δ : List Sl} {f : List Sl → M Rz} {C : Ex} (h : f δ = some (.err C)) : fDrop f δ = some (.exc C) := by unfold fDrop; rw [h]; rfl
theorem lc_at (fe : List Sl → M Rz) (δ : List Sl) : ∀ (items ds : List PyData), items.length = ds.length → (∀ (i : Nat) (d e : PyData), items[i]? = some d → ds[i]? = some e → ∃ z, fe (.dat d :: δ) = okM z ∧ datOf z = some e) → lcN fTrue fe δ items = some ds
  | [], [], _, _ => rfl
  | [], _ :: _, h, _ => by simp at h
  | _ :: _, [], h, _ => by simp at h
  | d :: r, e :: s, h, g => by
    obtain ⟨z, e1, hz⟩ := g 0 d e rfl rfl
    have h3 := lc_at fe δ r s (by simpa using h) fun i d' e' h1 h2 => g (i + 1) d' e' h1 h2
    unfold lcN
    show (match fe (.dat d :: δ) with | some (.ok z) => (match datOf z, lcN fTrue fe δ r with | some e, some es => some (e :: es) | _, _ => none) | _ => none) = _
    rw [e1]
    show (match datOf z, lcN fTrue fe δ r with | some e, some es => some (e :: es) | _, _ => none) = _
    rw [hz, h3]
theorem bls_map : ∀ bs : List Bool, blsOf (bs.map PyData.bool) = some bs
  | [] => rfl
  | b :: r => by rw [List.map_cons]; unfold blsOf; rw [bls_map r]
theorem q_map (q : List Bool → Bool) (bs : List Bool) : g1 (qOf q) [.new (bs.map PyData.bool)] = okM (.dat (.bool (q bs))) := by
  show qOf q (.new (bs.map PyData.bool)) = _
  unfold qOf Rz.d?
  dsimp only
  rw [bls_map]
theorem P_less (p q : Rat) (zp : NB.Sz 4000 p) (zq : NB.Sz 4000 q) : F_less [nD p, nD q] = okM (.val (.bool (decide (p < q)))) := by
  refine ev_fn rfl ?_
  show B_less [.dat (nD p), .dat (nD q)] = _
  unfold B_less
  have m1 : ∀ {u v : Int}, u.natAbs < 2 ^ 4000 → v.natAbs < 2 ^ 4000 → IntMulOk u v := fun hu hv => mulOk hu hv (by decide)
  have dp : ((p.den : Nat) : Int).natAbs < 2 ^ 4000 := by rw [Int.natAbs_natCast]; exact zp.2
  have dq : ((q.den : Nat) : Int).natAbs < 2 ^ 4000 := by rw [Int.natAbs_natCast]; exact zq.2
  refine ev_ret (x := .dat (.bool (decide (p < q)))) (ev_f2 (ev_f2 (ev_f2 rfl rfl ix_t0) (ev_f2 rfl rfl ix_t1) (gMulI (m1 zp.1 dq))) (ev_f2 (ev_f2 rfl rfl ix_t0) (ev_f2 rfl rfl ix_t1) (gMulI (m1 zq.1 dp))) ?_) rfl
  show okM (Rz.dat (PyData.bool (decide (p.num * (q.den : Int) < q.num * (p.den : Int))))) = _
  congr 3
  exact decide_eq_decide.mpr (Rat.lt_iff p q).symm
theorem gEq_nD (p q : Rat) : gEq false (.dat (nD p)) (.dat (nD q)) = okM (.dat (.bool (decide (p = q)))) := gEqD rfl rfl (ok_num p) (ok_num q) (eqv_num p q)
theorem len_rows (ps : List (Rat × Rat × List Rat)) : g1 lenOf [Rz.dat (.list (ps.map pD))] = okM (.dat (.int (ps.length : Int))) := by
  show okM (Rz.dat (PyData.int ((ps.map pD).length : Int))) = _
  rw [List.length_map]
theorem get_pD {ps : List (Rat × Rat × List Rat)} {i : Nat} {p : Rat × Rat × List Rat} (h : ps[i]? = some p) : (ps.map pD)[i]? = some (pD p) := by rw [List.getElem?_map, h]; rfl
def ltB (ps : List (Rat × Rat × List Rat)) : List Bool := ps.map fun p => decide (p.1 < p.2.1)
def lkB (ps : List (Rat × Rat × List Rat)) : List Bool := (List.range (ps.length - 1)).map fun i => decide ((ps.getD (i + 1) (0, 0, [])).1 = (ps.getD i (0, 0, [])).2.1)
def gtB (ps : List (Rat × Rat × List Rat)) : List Bool := ps.map fun p => decide ((p.2.2.length : Int) - 1 > 6)
def rowOk (ps : List (Rat × Rat × List Rat)) : Bool := !(decide (ps.length = 0) || decide (8 < ps.length)) && ((ltB ps).all id && (lkB ps).all id)
theorem ck_len (ps : List (Rat × Rat × List Rat)) : fOr (fB (f2 (gEq false) (fCall (g1 lenOf) (fCons (fVar 0) fNil)) (fC (.int 0)))) (fB (f2 (gI gGt) (fCall (g1 lenOf) (fCons (fVar 0) fNil)) (fC (.int 8)))) [.dat (.list (ps.map pD))] = okM (decide (ps.length = 0) || decide (8 < ps.length)) := by
  refine ev_or (a := decide (ps.length = 0)) ?_ fun _ => ?_
  · refine (ev_fB (ev_f2 (ev_call rfl (len_rows ps)) rfl (gEq_int _ _)) rfl).trans ?_
    congr 1
    exact decide_eq_decide.mpr (by omega)
  · refine (ev_fB (b := decide ((ps.length : Int) > 8)) (ev_f2 (ev_call rfl (len_rows ps)) rfl rfl) rfl).trans ?_
    congr 1
    exact decide_eq_decide.mpr (by omega)
theorem ck_lt (ps : List (Rat × Rat × List Rat)) (hn : ps.length ≤ 100) (hz : ∀ p ∈ ps, NB.Sz 4000 p.1 ∧ NB.Sz 4000 p.2.1) : fB (fCall (g1 (qOf allB)) (fCons (fLC (fI itemsL (fVar 0)) fTrue (fCall (gF 2 F_less) (fCons (f2 gIx (fVar 0) (fC (.int 0))) (fCons (f2 gIx (fVar 0) (fC (.int 1))) fNil)))) fNil)) [.dat (.list (ps.map pD))] = okM ((ltB ps).all id) := by
  have sl : (sizeLine : Nat) = 16777216 := rfl
  refine ev_fB (ev_call (ev_cons (x := .new ((ltB ps).map PyData.bool)) ?_ rfl) (q_map _ _)) rfl
  unfold fLC
  rw [ev_fI (items := ps.map pD) rfl rfl, bnd_okM, if_pos (by rw [List.length_map]; omega), lc_any pD (fun p => PyData.bool (decide (p.1 < p.2.1))) _ _ ps ?_]
  · unfold ltB
    rw [List.map_map]; rfl
  · intro p hp
    exact ⟨.dat (.bool (decide (p.1 < p.2.1))), ev_call (ev_cons (ev_f2 rfl rfl ix_t0) (ev_cons (ev_f2 rfl rfl ix_t1) rfl)) (ev_gF rfl rfl (P_less _ _ (hz p hp).1 (hz p hp).2) rfl), rfl⟩
theorem getD_at {ps : List (Rat × Rat × List Rat)} {i : Nat} (h : i < ps.length) : ps[i]? = some (ps.getD i (0, 0, [])) := by
  rw [List.getD_eq_getElem?_getD, List.getElem?_eq_getElem h]; rfl
theorem ck_lk (ps : List (Rat × Rat × List Rat)) (hn : ps.length ≤ 100) (h1 : ps.length ≠ 0) : fB (fCall (g1 (qOf allB)) (fCons (fLC (fR rng2 (fCons (fC (.int 1)) (fCons (fCall (g1 lenOf) (fCons (fVar 0) fNil)) fNil))) fTrue (f2 (gEq false) (f2 gIx (f2 gIx (fVar 1) (fVar 0)) (fC (.int 0))) (f2 gIx (f2 gIx (fVar 1) (f2 (gI D3.gSub) (fVar 0) (fC (.int 1)))) (fC (.int 1))))) fNil)) [.dat (.list (ps.map pD))] = okM ((lkB ps).all id) := by
  have sl : (sizeLine : Nat) = 16777216 := rfl
  refine ev_fB (ev_call (ev_cons (x := .new ((lkB ps).map PyData.bool)) ?_ rfl) (q_map _ _)) rfl
  unfold fLC
  rw [ev_rng2 (m := ps.length - 1) (ev_cons rfl (ev_cons (ev_call rfl (len_rows ps)) rfl)) (by omega) (by omega) (by omega) (by omega), bnd_okM, if_pos (by rw [range_len]; omega), lc_at _ _ (rangeL 1 (ps.length - 1)) ((lkB ps).map PyData.bool) (by rw [range_len]; unfold lkB; simp) ?_]
  intro i d e hd he
  obtain ⟨hi, rfl⟩ := range_at hd
  unfold lkB at he
  rw [List.map_map, List.getElem?_map, List.getElem?_range hi] at he
  cases he
  have g1' := get_pD (getD_at (ps := ps) (i := i + 1) (by omega))
  have g2' := get_pD (getD_at (ps := ps) (i := i) (by omega))
  exact ⟨_, ev_f2 (ev_f2 (ev_f2 rfl rfl (ix_lst (j := i + 1) (by omega) g1')) rfl ix_t0) (ev_f2 (ev_f2 rfl (ev_f2 rfl rfl rfl) (ix_lst (j := i) (by omega) g2')) rfl ix_t1) (gEq_nD _ _), rfl⟩
theorem P_check_pieces (ps : List (Rat × Rat × List Rat)) (hn : ps.length ≤ 100) (hz : ∀ p ∈ ps, NB.Sz 4000 p.1 ∧ NB.Sz 4000 p.2.1) : F_check_pieces [.list (ps.map pD)] = if rowOk ps = true then okM (.val .none) else some (.err .NoPieces) := by
  by_cases c1 : (decide (ps.length = 0) || decide (8 < ps.length)) = true
  · rw [if_neg (by unfold rowOk; rw [c1]; simp)]
    refine ev_fnX rfl ?_
    show B_check_pieces [.dat (.list (ps.map pD))] = _
    unfold B_check_pieces
    exact ev_sifT (by rw [ck_len, c1]) (ev_seqX rfl)
  · have c1' := Bool.eq_false_iff.mpr c1
    by_cases c2 : (ltB ps).all id = true
    · have h1 : ps.length ≠ 0 := fun z => c1 (by rw [z]; rfl)
      by_cases c3 : (lkB ps).all id = true
      · rw [if_pos (by unfold rowOk; rw [c1', c2, c3]; rfl)]
        refine ev_fnN (δ' := [.dat (.list (ps.map pD))]) rfl ?_
        show B_check_pieces [.dat (.list (ps.map pD))] = _
        unfold B_check_pieces
        refine ev_sifF (by rw [ck_len, c1']) (ev_snext ?_)
        refine ev_sifF (ev_notF (by rw [ck_lt ps hn hz, c2])) (ev_snext ?_)
        exact ev_iF (ev_notF (by rw [ck_lk ps hn h1, c3])) rfl
      · have c3' := Bool.eq_false_iff.mpr c3
        rw [if_neg (by unfold rowOk; rw [c3']; simp)]
        refine ev_fnX rfl ?_
        show B_check_pieces [.dat (.list (ps.map pD))] = _
        unfold B_check_pieces
        refine ev_sifF (by rw [ck_len, c1']) (ev_snext ?_)
        refine ev_sifF (ev_notF (by rw [ck_lt ps hn hz, c2])) (ev_snext ?_)
        exact ev_iT (ev_notT (by rw [ck_lk ps hn h1, c3'])) rfl
    · have c2' := Bool.eq_false_iff.mpr c2
      rw [if_neg (by unfold rowOk; rw [c2']; simp)]
      refine ev_fnX rfl ?_
      show B_check_pieces [.dat (.list (ps.map pD))] = _
      unfold B_check_pieces
      refine ev_sifF (by rw [ck_len, c1']) (ev_snext ?_)
      exact ev_sifT (ev_notT (by rw [ck_lt ps hn hz, c2'])) (ev_seqX rfl)
theorem ck_gt (ps : List (Rat × Rat × List Rat)) (hn : ps.length ≤ 100) : fB (fCall (g1 (qOf anyB)) (fCons (fLC (fI itemsL (fVar 0)) fTrue (f2 (gI gGt) (f2 (gI D3.gSub) (fCall (g1 lenOf) (fCons (f2 gIx (fVar 0) (fC (.int 2))) fNil)) (fC (.int 1))) (fC (.int 6)))) fNil)) [.dat (.list (ps.map pD))] = okM ((gtB ps).any id) := by
  have sl : (sizeLine : Nat) = 16777216 := rfl
  refine ev_fB (ev_call (ev_cons (x := .new ((gtB ps).map PyData.bool)) ?_ rfl) (q_map _ _)) rfl
  unfold fLC
  rw [ev_fI (items := ps.map pD) rfl rfl, bnd_okM, if_pos (by rw [List.length_map]; omega), lc_any pD (fun p => PyData.bool (decide ((p.2.2.length : Int) - 1 > 6))) _ _ ps ?_]
  · unfold gtB
    rw [List.map_map]; rfl
  · intro p hp
    exact ⟨.dat (.bool (decide ((p.2.2.length : Int) - 1 > 6))), ev_f2 (ev_f2 (ev_call (ev_cons (ev_f2 rfl rfl (ix_tup (j := 2) rfl rfl)) rfl) (len_cD _)) rfl rfl) rfl rfl, rfl⟩
theorem P_row_of (ps : List (Rat × Rat × List Rat)) (hn : ps.length ≤ 100) (hz : ∀ p ∈ ps, NB.Sz 4000 p.1 ∧ NB.Sz 4000 p.2.1) (h : rowOk ps = true) (hg : (gtB ps).any id = false) : F_row_of [.list (ps.map pD)] = okM (.val (.tuple (ps.map pD))) := by
  refine ev_fn rfl ?_
  show B_row_of [.dat (.list (ps.map pD))] = _
  unfold B_row_of
  refine ev_seq (ev_drop (ev_call rfl (ev_gF rfl rfl (by rw [P_check_pieces ps hn hz, if_pos h]) rfl))) ?_
  refine ev_sifF (by rw [ck_gt ps hn, hg]) (ev_snext ?_)
  exact ev_ret (ev_call rfl rfl) rfl
theorem P_row_ofG (ps : List (Rat × Rat × List Rat)) (hn : ps.length ≤ 100) (hz : ∀ p ∈ ps, NB.Sz 4000 p.1 ∧ NB.Sz 4000 p.2.1) (h : rowOk ps = true) (hg : (gtB ps).any id = true) : F_row_of [.list (ps.map pD)] = some (.err .TooGreat) := by
  refine ev_fnX rfl ?_
  show B_row_of [.dat (.list (ps.map pD))] = _
  unfold B_row_of
  refine ev_seq (ev_drop (ev_call rfl (ev_gF rfl rfl (by rw [P_check_pieces ps hn hz, if_pos h]) rfl))) ?_
  exact ev_sifT (by rw [ck_gt ps hn, hg]) (ev_seqX rfl)
theorem P_row_ofX (ps : List (Rat × Rat × List Rat)) (hn : ps.length ≤ 100) (hz : ∀ p ∈ ps, NB.Sz 4000 p.1 ∧ NB.Sz 4000 p.2.1) (h : rowOk ps = false) : F_row_of [.list (ps.map pD)] = some (.err .NoPieces) := by
  refine ev_fnX rfl ?_
  show B_row_of [.dat (.list (ps.map pD))] = _
  unfold B_row_of
  refine ev_seqX (ev_dropX (show gF 1 F_check_pieces [Rz.dat (.list (ps.map pD))] = _ from ev_gFX (ds := [.list (ps.map pD)]) rfl rfl (by rw [P_check_pieces ps hn hz, if_neg (by rw [h]; decide)])))
theorem row_ok (ps : List (Rat × Rat × List Rat)) (h0 : ps.length ≠ 0) (h8 : ps.length ≤ 8) (hl : ∀ p ∈ ps, p.1 < p.2.1) (hk : ∀ j p p', ps[j]? = some p → ps[j + 1]? = some p' → p'.1 = p.2.1) : rowOk ps = true := by
  unfold rowOk
  rw [decide_eq_false h0, decide_eq_false (by omega : ¬ 8 < ps.length)]
  have e1 : (ltB ps).all id = true := by
    unfold ltB
    rw [List.all_map, List.all_eq_true]
    intro p hp
    exact decide_eq_true (hl p hp)
  have e2 : (lkB ps).all id = true := by
    unfold lkB
    rw [List.all_map, List.all_eq_true]
    intro i hi
    rw [List.mem_range] at hi
    exact decide_eq_true (hk i _ _ (getD_at (by omega)) (getD_at (by omega)))
  rw [e1, e2]; rfl
theorem no_gt (ps : List (Rat × Rat × List Rat)) (h : ∀ p ∈ ps, p.2.2.length ≤ 7) : (gtB ps).any id = false := by
  unfold gtB
  rw [List.any_map, List.any_eq_false]
  intro p hp
  have := h p hp
  simp only [Function.comp, id, decide_eq_true_eq]
  omega
theorem outZ_row (ps : List (Rat × Rat × List Rat)) : outZ (.val (.tuple (ps.map pD))) = .dat (.tuple (ps.map pD)) := by
  unfold outZ
  dsimp only
  rw [if_pos (by unfold noL; exact noLs_pD ps)]
local macro_rules | `(tactic| walk_at "ev") => `(tactic| first
  | assumption
  | with_reducible refine ev_f2 ?_ ?_ ?_ <;> walk_at "ev"
  | with_reducible refine ev_fB ?_ ?_ <;> walk_at "ev"
  | with_reducible refine ev_fV ?_ <;> walk_at "ev"
  | with_reducible refine ev_not ?_ <;> walk_at "ev"
  | with_reducible refine ev_fU ?_ ?_ <;> walk_at "ev"
  | with_reducible refine ev_cons ?_ ?_ <;> walk_at "ev"
  | with_reducible refine ev_call ?_ ?_ <;> walk_at "ev"
  | with_reducible exact gEq_int _ _
  | with_reducible exact gNe_int _ _
  | with_reducible exact ix_t0
  | with_reducible exact ix_t1
  | with_reducible refine gMulI ?_ <;> walk_at "sd"
  | with_reducible refine gModP ?_ <;> walk_at "sd"
  | with_reducible refine gFdivP ?_ ?_ <;> walk_at "sd"
  | with_reducible refine gPowI ?_ <;> exact ⟨by decide, by decide, by decide⟩
  | with_reducible refine ev_gF rfl rfl ?_ rfl <;> walk_at "fn"
  | with_reducible rfl
  | rfl)
local macro_rules | `(tactic| walk_at "sd") => `(tactic| first | assumption | omega | decide)
local macro_rules | `(tactic| walk_at "fn") => `(tactic| assumption)
local macro_rules | `(tactic| walk_at "ss") => `(tactic| (simp only [List.set_cons_succ, List.set_cons_zero] <;> rfl))
/-! statements, one after another, as far as no test is open -/
local macro_rules | `(tactic| walk_at "st") => `(tactic| first
  | with_reducible refine ev_sset ?_ rfl ?_ ?_; rotate_left 1; (walk_at "ss"); rotate_left 1)
/-! two rows laid over each other -/
abbrev Zc := Int × Int × List Rat
abbrev Mc := Int × Int × List Rat × List Rat
/-- pieces one behind the other, from a to b -/
def Rn : List Zc → Int → Int → Prop
  | [], a, b => a = b
  | p :: r, a, b => p.1 = a ∧ a < p.2.1 ∧ Rn r p.2.1 b
theorem Rn.le : ∀ {l : List Zc} {a b : Int}, Rn l a b → a ≤ b
  | [], _, _, h => Int.le_of_eq h
  | p :: r, a, b, h => Int.le_trans (Int.le_of_lt h.2.1) (Rn.le h.2.2)
def mg : Nat → List Zc → List Zc → Int → List Mc
  | 0, _, _, _ => []
  | _ + 1, [], _, _ => []
  | _ + 1, _ :: _, [], _ => []
  | n + 1, p :: r, q :: s, a =>
    if p.2.1 < q.2.1 then (a, p.2.1, p.2.2, q.2.2) :: mg n r (q :: s) p.2.1
    else if q.2.1 < p.2.1 then (a, q.2.1, p.2.2, q.2.2) :: mg n (p :: r) s q.2.1
    else (a, p.2.1, p.2.2, q.2.2) :: mg n r s p.2.1
/-- a row, of which the first piece may have been begun -/
def Rb : List Zc → Int → Int → Prop
  | [], a, b => a = b
  | p :: r, a, b => p.1 ≤ a ∧ a < p.2.1 ∧ Rn r p.2.1 b
theorem Rn.rb {l : List Zc} {a b : Int} (h : Rn l a b) : Rb l a b := by
  cases l with
  | nil => exact h
  | cons p r => exact ⟨Int.le_of_eq h.1, h.2⟩
/-- the high ends -/
def hgs (l : List Zc) : List Int := l.map fun p => p.2.1
/-- what the merge is: rising high ends, those of both rows; each with the two curves that hold there -/
structure Mg (l m : List Zc) (a : Int) (M : List Mc) : Prop where
  rise : (a :: M.map fun c => c.2.1).Pairwise (· < ·)
  mem : ∀ x, x ∈ (M.map fun c => c.2.1) ↔ x ∈ hgs l ∨ x ∈ hgs m
  low : ∀ (i : Nat) (c : Mc), M[i]? = some c → (a :: M.map fun c => c.2.1)[i]? = some c.1
  cur : ∀ c ∈ M, (∃ p ∈ l, p.1 ≤ c.1 ∧ c.1 < p.2.1 ∧ c.2.2.1 = p.2.2) ∧ (∃ q ∈ m, q.1 ≤ c.1 ∧ c.1 < q.2.1 ∧ c.2.2.2 = q.2.2)
theorem mg_ok : ∀ (n : Nat) (l m : List Zc) (a b : Int), Rb l a b → Rb m a b → l.length + m.length ≤ n → Mg l m a (mg n l m a)
  | n, [], m, a, b, hl, hm, hn => by
    have : a = b := hl
    subst this
    have hm' : m = [] := by
      cases m with
      | nil => rfl
      | cons q s => have := hm.2.2.le; have := hm.2.1; omega
    subst hm'
    have e : mg n [] [] a = [] := by cases n <;> rfl
    rw [e]
    exact ⟨List.pairwise_singleton _ _, fun x => by simp [hgs], fun i c h => by simp at h, fun c h => by cases h⟩
  | n, p :: r, [], a, b, hl, hm, hn => by
    have : a = b := hm
    subst this
    have := hl.2.2.le; have := hl.2.1; omega
  | 0, p :: r, q :: s, a, b, hl, hm, hn => by simp at hn
  | n + 1, p :: r, q :: s, a, b, hl, hm, hn => by
    rw [List.length_cons, List.length_cons] at hn
    have cons : ∀ (h : Int) (l' m' : List Zc) (M : List Mc), a < h → Mg l' m' h M → (∀ x, x ∈ hgs (p :: r) ∨ x ∈ hgs (q :: s) ↔ x = h ∨ x ∈ hgs l' ∨ x ∈ hgs m') → (∀ z ∈ l', z ∈ p :: r) → (∀ z ∈ m', z ∈ q :: s) → Mg (p :: r) (q :: s) a ((a, h, p.2.2, q.2.2) :: M) := fun h l' m' M hah I hx hl' hm' => by
      refine ⟨?_, fun x => ?_, fun i c e => ?_, fun c hc => ?_⟩
      · rw [List.map_cons]
        refine List.pairwise_cons.mpr ⟨fun x hx => ?_, I.rise⟩
        rcases List.mem_cons.mp hx with rfl | hx
        · exact hah
        · have := (List.pairwise_cons.mp I.rise).1 x hx
          omega
      · rw [List.map_cons, List.mem_cons, I.mem, hx]
      · cases i with
        | zero => cases e; rfl
        | succ i => rw [List.map_cons]; exact I.low i c e
      · rcases List.mem_cons.mp hc with rfl | hc
        · exact ⟨⟨p, .head _, hl.1, hl.2.1, rfl⟩, ⟨q, .head _, hm.1, hm.2.1, rfl⟩⟩
        · obtain ⟨⟨p', a1, a2⟩, ⟨q', b1, b2⟩⟩ := I.cur c hc
          exact ⟨⟨p', hl' p' a1, a2⟩, ⟨q', hm' q' b1, b2⟩⟩
    unfold mg
    by_cases c1 : p.2.1 < q.2.1
    · rw [if_pos c1]
      refine cons _ r (q :: s) _ hl.2.1 (mg_ok n r (q :: s) p.2.1 b hl.2.2.rb ⟨by have := hm.1; have := hl.2.1; omega, c1, hm.2.2⟩ (by rw [List.length_cons]; omega)) (fun x => ?_) (fun z h => .tail _ h) (fun z h => h)
      unfold hgs
      rw [List.map_cons, List.mem_cons, or_assoc]
    · rw [if_neg c1]
      by_cases c2 : q.2.1 < p.2.1
      · rw [if_pos c2]
        refine cons _ (p :: r) s _ hm.2.1 (mg_ok n (p :: r) s q.2.1 b ⟨by have := hl.1; have := hm.2.1; omega, c2, hl.2.2⟩ hm.2.2.rb (by rw [List.length_cons]; omega)) (fun x => ?_) (fun z h => h) (fun z h => .tail _ h)
        unfold hgs
        rw [List.map_cons (l := s), List.mem_cons]
        constructor
        · rintro (h | h | h)
          · exact .inr (.inl h)
          · exact .inl h
          · exact .inr (.inr h)
        · rintro (h | h | h)
          · exact .inr (.inl h)
          · exact .inl h
          · exact .inr (.inr h)
      · rw [if_neg c2]
        have e : p.2.1 = q.2.1 := by omega
        refine cons _ r s _ hl.2.1 (mg_ok n r s p.2.1 b hl.2.2.rb (by rw [e]; exact hm.2.2.rb) (by omega)) (fun x => ?_) (fun z h => .tail _ h) (fun z h => .tail _ h)
        unfold hgs
        rw [List.map_cons, List.map_cons, List.mem_cons, List.mem_cons, e]
        constructor
        · rintro ((h | h) | (h | h))
          · exact .inl h
          · exact .inr (.inl h)
          · exact .inl h
          · exact .inr (.inr h)
        · rintro (h | h | h)
          · exact .inl (.inl h)
          · exact .inl (.inr h)
          · exact .inr (.inr h)
/-- two rising lists with the same numbers -/
theorem rise_eq : ∀ {l m : List Int}, l.Pairwise (· < ·) → m.Pairwise (· < ·) → (∀ x, x ∈ l ↔ x ∈ m) → l = m
  | [], [], _, _, _ => rfl
  | [], b :: s, _, _, h => absurd ((h b).mpr (.head _)) (by simp)
  | a :: r, [], _, _, h => absurd ((h a).mp (.head _)) (by simp)
  | a :: r, b :: s, h1, h2, h => by
    have p1 := List.pairwise_cons.mp h1
    have p2 := List.pairwise_cons.mp h2
    have e : a = b := by
      rcases List.mem_cons.mp ((h a).mp (.head _)) with z | z
      · exact z
      · rcases List.mem_cons.mp ((h b).mpr (.head _)) with y | y
        · exact y.symm
        · have := p1.1 b y
          have := p2.1 a z
          omega
    subst e
    rw [rise_eq p1.2 p2.2 fun x => ?_]
    constructor
    · intro hx
      rcases List.mem_cons.mp ((h x).mp (.tail _ hx)) with z | z
      · subst z; have := p1.1 x hx; omega
      · exact z
    · intro hx
      rcases List.mem_cons.mp ((h x).mpr (.tail _ hx)) with z | z
      · subst z; have := p2.1 x hx; omega
      · exact z
/-- keys in their order -/
theorem putI_mem {ks : List Int} {k x : Int} : x ∈ putI ks k ↔ x ∈ ks ∨ x = k := by
  unfold putI
  by_cases c : k ∈ ks
  · rw [if_pos c]
    exact ⟨.inl, fun h => by rcases h with h | rfl; exact h; exact c⟩
  · rw [if_neg c, List.mem_append, List.mem_singleton]
theorem putI_nodup {ks : List Int} (h : ks.Nodup) (k : Int) : (putI ks k).Nodup := by
  unfold putI
  by_cases c : k ∈ ks
  · rw [if_pos c]; exact h
  · rw [if_neg c]
    refine List.nodup_append.mpr ⟨h, List.nodup_cons.mpr ⟨by simp, List.nodup_nil⟩, fun a ha b hb => ?_⟩
    rw [List.mem_singleton] at hb
    subst hb
    intro z
    exact c (z ▸ ha)
theorem putI_len (ks : List Int) (k : Int) : (putI ks k).length ≤ ks.length + 1 := by
  unfold putI
  split
  · omega
  · simp
theorem srtI_rise {ks : List Int} (h : ks.Nodup) : (srtI ks).Pairwise (· < ·) := by
  have h1 := @srtI_sorted ⟨fun _ => 0⟩ ks
  have h2 : (srtI ks).Nodup := (@srtI_perm ⟨fun _ => 0⟩ ks).nodup_iff.mpr h
  have h3 := List.pairwise_and_iff.mpr ⟨h1, h2⟩
  exact h3.imp fun ⟨a, b⟩ => by omega
theorem srtI_mem {ks : List Int} {x : Int} : x ∈ srtI ks ↔ x ∈ ks := (@srtI_perm ⟨fun _ => 0⟩ ks).mem_iff

theorem mg_cons (n : Nat) (p q : Zc) (r s : List Zc) (a : Int) : mg (n + 1) (p :: r) (q :: s) a = if p.2.1 < q.2.1 then (a, p.2.1, p.2.2, q.2.2) :: mg n r (q :: s) p.2.1 else if q.2.1 < p.2.1 then (a, q.2.1, p.2.2, q.2.2) :: mg n (p :: r) s q.2.1 else (a, p.2.1, p.2.2, q.2.2) :: mg n r s p.2.1 := rfl
def zP (z : Zc) : Rat × Rat × List Rat := ((z.1 : Rat), (z.2.1 : Rat), z.2.2)
def mD (c : Mc) : PyData := .tuple [nD (c.1 : Rat), nD (c.2.1 : Rat), cD c.2.2.1, cD c.2.2.2]
theorem get_zP {l : List Zc} {i : Nat} {p : Zc} (h : l[i]? = some p) : ((l.map zP).map pD)[i]? = some (pD (zP p)) := by rw [List.getElem?_map, List.getElem?_map, h]; rfl
theorem len_zT (l : List Zc) : g1 lenOf [Rz.dat (.tuple ((l.map zP).map pD))] = okM (.dat (.int (l.length : Int))) := by
  show okM (Rz.dat (PyData.int (((l.map zP).map pD).length : Int))) = _
  rw [List.length_map, List.length_map]
theorem sz_int {i : Int} (h : i.natAbs ≤ 1000) : NB.Sz 4000 (i : Rat) := by
  refine NB.Sz.mono (m := 10) ⟨?_, ?_⟩ (by decide)
  · rw [Rat.num_intCast]; have : (2 : Nat) ^ 10 = 1024 := rfl; omega
  · rw [Rat.den_intCast]; decide
theorem ov_loop (l m : List Zc) (a b : Int) (hl : Rn l a b) (hm : Rn m a b) (sl : l.length ≤ 8) (sm : m.length ≤ 8) (zl : ∀ p ∈ l, p.2.1.natAbs ≤ 1000) (zm : ∀ p ∈ m, p.2.1.natAbs ≤ 1000) :
    ∃ s3 s4 s5 s6 : Sl, fWh (fB (f2 (gI gLt) (fVar 4) (fCall (g1 lenOf) (fCons (fVar 0) fNil)))) (fSeq (fSet 6 (f2 gIx (f2 gIx (fVar 0) (fVar 4)) (fC (.int 1))))
    (fSeq (fIfS (fB (fCall (gF 2 F_less) (fCons (f2 gIx (f2 gIx (fVar 1) (fVar 5)) (fC (.int 1))) (fCons (fVar 6) fNil)))) (fSet 6 (f2 gIx (f2 gIx (fVar 1) (fVar 5)) (fC (.int 1)))) fNext)
    (fSeq (fApp 2 (fCall D3.gTup (fCons (fVar 3) (fCons (fVar 6) (fCons (f2 gIx (f2 gIx (fVar 0) (fVar 4)) (fC (.int 2))) (fCons (f2 gIx (f2 gIx (fVar 1) (fVar 5)) (fC (.int 2))) fNil))))))
    (fSeq (fSet 3 (fVar 6))
    (fSeq (fIfS (fB (f2 (gEq false) (f2 gIx (f2 gIx (fVar 0) (fVar 4)) (fC (.int 1))) (fVar 6))) (fSet 4 (f2 (gI gAdd) (fVar 4) (fC (.int 1)))) fNext)
    (fIfS (fB (f2 (gEq false) (f2 gIx (f2 gIx (fVar 1) (fVar 5)) (fC (.int 1))) (fVar 6))) (fSet 5 (f2 (gI gAdd) (fVar 5) (fC (.int 1)))) fNext)))))) [.dat (.tuple ((l.map zP).map pD)), .dat (.tuple ((m.map zP).map pD)), .own [], .dat (nD (a : Rat)), .dat (.int 0), .dat (.int 0), .no] = some (.next [.dat (.tuple ((l.map zP).map pD)), .dat (.tuple ((m.map zP).map pD)), .own ((mg (l.length + m.length) l m a).map mD), s3, s4, s5, s6]) := by
  have szl : (sizeLine : Nat) = 16777216 := rfl
  obtain ⟨δ', e, s3, s4, s5, s6, rfl⟩ := whN_inv (c := (fB (f2 (gI gLt) (fVar 4) (fCall (g1 lenOf) (fCons (fVar 0) fNil))))) (b := (fSeq (fSet 6 (f2 gIx (f2 gIx (fVar 0) (fVar 4)) (fC (.int 1))))
    (fSeq (fIfS (fB (fCall (gF 2 F_less) (fCons (f2 gIx (f2 gIx (fVar 1) (fVar 5)) (fC (.int 1))) (fCons (fVar 6) fNil)))) (fSet 6 (f2 gIx (f2 gIx (fVar 1) (fVar 5)) (fC (.int 1)))) fNext)
    (fSeq (fApp 2 (fCall D3.gTup (fCons (fVar 3) (fCons (fVar 6) (fCons (f2 gIx (f2 gIx (fVar 0) (fVar 4)) (fC (.int 2))) (fCons (f2 gIx (f2 gIx (fVar 1) (fVar 5)) (fC (.int 2))) fNil))))))
    (fSeq (fSet 3 (fVar 6))
    (fSeq (fIfS (fB (f2 (gEq false) (f2 gIx (f2 gIx (fVar 0) (fVar 4)) (fC (.int 1))) (fVar 6))) (fSet 4 (f2 (gI gAdd) (fVar 4) (fC (.int 1)))) fNext)
    (fIfS (fB (f2 (gEq false) (f2 gIx (f2 gIx (fVar 1) (fVar 5)) (fC (.int 1))) (fVar 6))) (fSet 5 (f2 (gI gAdd) (fVar 5) (fC (.int 1)))) fNext))))))) (δ := [.dat (.tuple ((l.map zP).map pD)), .dat (.tuple ((m.map zP).map pD)), .own [], .dat (nD (a : Rat)), .dat (.int 0), .dat (.int 0), .no])
    (fun δ => ∃ (i j n : Nat) (M0 : List Mc) (lo : Int) (r6 : Sl), δ = [.dat (.tuple ((l.map zP).map pD)), .dat (.tuple ((m.map zP).map pD)), .own (M0.map mD), .dat (nD ((lo : Int) : Rat)), .dat (.int (i : Int)), .dat (.int (j : Int)), r6] ∧ M0 ++ mg n (l.drop i) (m.drop j) lo = mg (l.length + m.length) l m a ∧ Rb (l.drop i) lo b ∧ Rb (m.drop j) lo b ∧ (l.drop i).length + (m.drop j).length ≤ n ∧ M0.length ≤ i + j ∧ i ≤ l.length ∧ j ≤ m.length)
    (fun δ => ∃ s3 s4 s5 s6 : Sl, δ = [.dat (.tuple ((l.map zP).map pD)), .dat (.tuple ((m.map zP).map pD)), .own ((mg (l.length + m.length) l m a).map mD), s3, s4, s5, s6])
    (fun (δ : List Sl) => match δ[4]?, δ[5]? with | some (Sl.dat (PyData.int i)), some (Sl.dat (PyData.int j)) => (l.length - i.toNat) + (m.length - j.toNat) | _, _ => (0 : Nat))
    (by
      rintro δ ⟨i, j, n, M0, lo, r6, rfl, h1, h2, h3, h4, h5, h6, h7⟩
      have hc : (fB (f2 (gI gLt) (fVar 4) (fCall (g1 lenOf) (fCons (fVar 0) fNil)))) [.dat (.tuple ((l.map zP).map pD)), .dat (.tuple ((m.map zP).map pD)), .own (M0.map mD), .dat (nD ((lo : Int) : Rat)), .dat (.int (i : Int)), .dat (.int (j : Int)), r6] = okM (decide ((i : Int) < (l.length : Int))) := ev_fB (ev_f2 rfl (ev_call rfl (len_zT l)) rfl) rfl
      by_cases ci : i < l.length
      · refine .inr ⟨by rw [hc, decide_eq_true (by omega)], ?_⟩
        have gi : l[i]? = some l[i] := List.getElem?_eq_getElem ci
        obtain ⟨p, hp⟩ : ∃ p, p = l[i] := ⟨_, rfl⟩
        rw [← hp] at gi
        have di : l.drop i = p :: l.drop (i + 1) := by rw [hp]; exact List.drop_eq_getElem_cons ci
        rw [di] at h1 h2 h4
        have cj : j < m.length := by
          by_cases c : j < m.length
          · exact c
          · rw [List.drop_eq_nil_of_le (by omega)] at h3
            have e0 : lo = b := h3
            have := h2.2.2.le
            have := h2.2.1
            omega
        have gj : m[j]? = some m[j] := List.getElem?_eq_getElem cj
        obtain ⟨q, hq⟩ : ∃ q, q = m[j] := ⟨_, rfl⟩
        rw [← hq] at gj
        have dj : m.drop j = q :: m.drop (j + 1) := by rw [hq]; exact List.drop_eq_getElem_cons cj
        rw [dj] at h1 h3 h4
        obtain ⟨n, rfl⟩ : ∃ k, n = k + 1 := ⟨n - 1, by rw [List.length_cons] at h4; omega⟩
        rw [List.length_cons, List.length_cons] at h4
        rw [mg_cons] at h1
        have zp := sz_int (zl p (List.mem_of_getElem? gi))
        have zq := sz_int (zm q (List.mem_of_getElem? gj))
        have eP : ∀ f s3 h, (f2 gIx (fVar 0) (fVar 4)) [.dat (.tuple ((l.map zP).map pD)), .dat (.tuple ((m.map zP).map pD)), f, s3, .dat (.int (i : Int)), .dat (.int (j : Int)), h] = okM (.dat (pD (zP p))) := fun _ _ _ => ev_f2 rfl rfl (ix_tup (j := i) rfl (get_zP gi))
        have eQ : ∀ f s3 s4 h, (f2 gIx (fVar 1) (fVar 5)) [.dat (.tuple ((l.map zP).map pD)), .dat (.tuple ((m.map zP).map pD)), f, s3, s4, .dat (.int (j : Int)), h] = okM (.dat (pD (zP q))) := fun _ _ _ _ => ev_f2 rfl rfl (ix_tup (j := j) rfl (get_zP gj))
        have eP1 : ∀ f s3 h, (f2 gIx (f2 gIx (fVar 0) (fVar 4)) (fC (.int 1))) [.dat (.tuple ((l.map zP).map pD)), .dat (.tuple ((m.map zP).map pD)), f, s3, .dat (.int (i : Int)), .dat (.int (j : Int)), h] = okM (.dat (nD (p.2.1 : Rat))) := fun _ _ _ => ev_f2 (eP _ _ _) rfl ix_t1
        have eQ1 : ∀ f s3 s4 h, (f2 gIx (f2 gIx (fVar 1) (fVar 5)) (fC (.int 1))) [.dat (.tuple ((l.map zP).map pD)), .dat (.tuple ((m.map zP).map pD)), f, s3, s4, .dat (.int (j : Int)), h] = okM (.dat (nD (q.2.1 : Rat))) := fun _ _ _ _ => ev_f2 (eQ _ _ _ _) rfl ix_t1
        have lt : F_less [nD (q.2.1 : Rat), nD (p.2.1 : Rat)] = okM (.val (.bool (decide (q.2.1 < p.2.1)))) := by
          rw [P_less _ _ zq zp]
          congr 3
          exact decide_eq_decide.mpr Rat.intCast_lt_intCast
        have eqz : ∀ x y : Int, gEq false (.dat (nD (x : Rat))) (.dat (nD (y : Rat))) = okM (.dat (.bool (decide (x = y)))) := fun x y => by
          rw [gEq_nD]
          congr 3
          exact decide_eq_decide.mpr Rat.intCast_inj
        have tail : ∀ (hh : Int) (i' j' : Nat) (M1 : List Mc), (decide (p.2.1 = hh) = decide (i' = i + 1)) → (i' = i ∨ i' = i + 1) → (decide (q.2.1 = hh) = decide (j' = j + 1)) → (j' = j ∨ j' = j + 1) → (fIfS (fB (fCall (gF 2 F_less) (fCons (f2 gIx (f2 gIx (fVar 1) (fVar 5)) (fC (.int 1))) (fCons (fVar 6) fNil)))) (fSet 6 (f2 gIx (f2 gIx (fVar 1) (fVar 5)) (fC (.int 1)))) fNext) [.dat (.tuple ((l.map zP).map pD)), .dat (.tuple ((m.map zP).map pD)), .own (M0.map mD), .dat (nD ((lo : Int) : Rat)), .dat (.int (i : Int)), .dat (.int (j : Int)), .dat (nD (p.2.1 : Rat))] = some (.next [.dat (.tuple ((l.map zP).map pD)), .dat (.tuple ((m.map zP).map pD)), .own (M0.map mD), .dat (nD ((lo : Int) : Rat)), .dat (.int (i : Int)), .dat (.int (j : Int)), .dat (nD (hh : Rat))]) →
            (fSeq (fSet 6 (f2 gIx (f2 gIx (fVar 0) (fVar 4)) (fC (.int 1))))
    (fSeq (fIfS (fB (fCall (gF 2 F_less) (fCons (f2 gIx (f2 gIx (fVar 1) (fVar 5)) (fC (.int 1))) (fCons (fVar 6) fNil)))) (fSet 6 (f2 gIx (f2 gIx (fVar 1) (fVar 5)) (fC (.int 1)))) fNext)
    (fSeq (fApp 2 (fCall D3.gTup (fCons (fVar 3) (fCons (fVar 6) (fCons (f2 gIx (f2 gIx (fVar 0) (fVar 4)) (fC (.int 2))) (fCons (f2 gIx (f2 gIx (fVar 1) (fVar 5)) (fC (.int 2))) fNil))))))
    (fSeq (fSet 3 (fVar 6))
    (fSeq (fIfS (fB (f2 (gEq false) (f2 gIx (f2 gIx (fVar 0) (fVar 4)) (fC (.int 1))) (fVar 6))) (fSet 4 (f2 (gI gAdd) (fVar 4) (fC (.int 1)))) fNext)
    (fIfS (fB (f2 (gEq false) (f2 gIx (f2 gIx (fVar 1) (fVar 5)) (fC (.int 1))) (fVar 6))) (fSet 5 (f2 (gI gAdd) (fVar 5) (fC (.int 1)))) fNext)))))) [.dat (.tuple ((l.map zP).map pD)), .dat (.tuple ((m.map zP).map pD)), .own (M0.map mD), .dat (nD ((lo : Int) : Rat)), .dat (.int (i : Int)), .dat (.int (j : Int)), r6] = some (.next [.dat (.tuple ((l.map zP).map pD)), .dat (.tuple ((m.map zP).map pD)), .own ((M0 ++ [(lo, hh, p.2.2, q.2.2)]).map mD), .dat (nD (hh : Rat)), .dat (.int (i' : Int)), .dat (.int (j' : Int)), .dat (nD (hh : Rat))]) := fun hh i' j' M1 k1 k2 k3 k4 k5 => by
          refine ev_sset (eP1 _ _ _) rfl (by walk_at "ss") (ev_seq k5 ?_)
          refine ev_seq (ev_app (d := mD (lo, hh, p.2.2, q.2.2)) rfl (ev_call (ev_cons rfl (ev_cons rfl (ev_cons (ev_f2 (eP _ _ _) rfl (ix_tup (j := 2) rfl rfl)) (ev_cons (ev_f2 (eQ _ _ _ _) rfl (ix_tup (j := 2) rfl rfl)) rfl)))) rfl) rfl (by rw [List.length_map]; omega) (δ' := [.dat (.tuple ((l.map zP).map pD)), .dat (.tuple ((m.map zP).map pD)), .own ((M0 ++ [(lo, hh, p.2.2, q.2.2)]).map mD), .dat (nD ((lo : Int) : Rat)), .dat (.int (i : Int)), .dat (.int (j : Int)), .dat (nD (hh : Rat))]) (by rw [List.map_append]; rfl)) ?_
          refine ev_sset (x := .dat (nD (hh : Rat))) rfl rfl (by walk_at "ss") ?_
          refine ev_seq (δ' := [.dat (.tuple ((l.map zP).map pD)), .dat (.tuple ((m.map zP).map pD)), .own ((M0 ++ [(lo, hh, p.2.2, q.2.2)]).map mD), .dat (nD (hh : Rat)), .dat (.int (i' : Int)), .dat (.int (j : Int)), .dat (nD (hh : Rat))]) ?_ ?_
          · refine ev_if (b := decide (p.2.1 = hh)) (ev_fB (ev_f2 (eP1 _ _ _) rfl (eqz _ _)) rfl) (fun z => ?_) fun z => ?_
            · have : i' = i + 1 := of_decide_eq_true (k1.symm.trans z)
              subst this
              exact ev_set (ev_f2 rfl rfl rfl) rfl rfl
            · have : i' ≠ i + 1 := of_decide_eq_false (k1.symm.trans z)
              have : i' = i := by omega
              subst this; rfl
          · refine ev_if (b := decide (q.2.1 = hh)) (ev_fB (ev_f2 (eQ1 _ _ _ _) rfl (eqz _ _)) rfl) (fun z => ?_) fun z => ?_
            · have : j' = j + 1 := of_decide_eq_true (k3.symm.trans z)
              subst this
              exact ev_set (ev_f2 rfl rfl rfl) rfl rfl
            · have : j' ≠ j + 1 := of_decide_eq_false (k3.symm.trans z)
              have : j' = j := by omega
              subst this; rfl
        have dT : ∀ {x y : Int}, x = y → decide (x = y) = true := fun h => decide_eq_true h
        by_cases c1 : p.2.1 < q.2.1
        · rw [if_pos c1] at h1
          refine ⟨_, tail p.2.1 (i + 1) j [] (by simp) (.inr rfl) (by rw [decide_eq_false (by omega), decide_eq_false (by omega)]) (.inl rfl) (ev_iF (ev_fB (ev_call (ev_cons (eQ1 _ _ _ _) (ev_cons rfl rfl)) (ev_gF rfl rfl lt rfl)) (by rw [decide_eq_false (by omega)]; rfl)) rfl), ⟨i + 1, j, n, _, p.2.1, _, rfl, by rw [dj, List.append_assoc]; exact h1, h2.2.2.rb, by rw [dj]; exact ⟨by have := h3.1; have := h2.2.1; omega, c1, h3.2.2⟩, by rw [dj, List.length_cons]; omega, by rw [List.length_append, List.length_singleton]; omega, by omega, h7⟩, ?_⟩
          show (l.length - ((i + 1 : Nat) : Int).toNat) + (m.length - (j : Int).toNat) < (l.length - (i : Int).toNat) + (m.length - (j : Int).toNat)
          omega
        · rw [if_neg c1] at h1
          by_cases c2 : q.2.1 < p.2.1
          · rw [if_pos c2] at h1
            refine ⟨_, tail q.2.1 i (j + 1) [] (by rw [decide_eq_false (by omega), decide_eq_false (by omega)]) (.inl rfl) (by simp) (.inr rfl) (ev_iT (ev_fB (ev_call (ev_cons (eQ1 _ _ _ _) (ev_cons rfl rfl)) (ev_gF rfl rfl lt rfl)) (by rw [decide_eq_true c2]; rfl)) (ev_set (eQ1 _ _ _ _) rfl rfl)), ⟨i, j + 1, n, _, q.2.1, _, rfl, by rw [di, List.append_assoc]; exact h1, by rw [di]; exact ⟨by have := h2.1; have := h3.2.1; omega, c2, h2.2.2⟩, h3.2.2.rb, by rw [di, List.length_cons]; omega, by rw [List.length_append, List.length_singleton]; omega, h6, by omega⟩, ?_⟩
            show (l.length - (i : Int).toNat) + (m.length - ((j + 1 : Nat) : Int).toNat) < (l.length - (i : Int).toNat) + (m.length - (j : Int).toNat)
            omega
          · rw [if_neg c2] at h1
            have e0 : p.2.1 = q.2.1 := by omega
            refine ⟨_, tail p.2.1 (i + 1) (j + 1) [] (by simp) (.inr rfl) (by rw [decide_eq_true e0.symm]; simp) (.inr rfl) (ev_iF (ev_fB (ev_call (ev_cons (eQ1 _ _ _ _) (ev_cons rfl rfl)) (ev_gF rfl rfl lt rfl)) (by rw [decide_eq_false c2]; rfl)) rfl), ⟨i + 1, j + 1, n, _, p.2.1, _, rfl, by rw [List.append_assoc]; exact h1, h2.2.2.rb, by rw [e0]; exact h3.2.2.rb, by omega, by rw [List.length_append, List.length_singleton]; omega, by omega, by omega⟩, ?_⟩
            show (l.length - ((i + 1 : Nat) : Int).toNat) + (m.length - ((j + 1 : Nat) : Int).toNat) < (l.length - (i : Int).toNat) + (m.length - (j : Int).toNat)
            omega
      · refine .inl ⟨by rw [hc, decide_eq_false (by omega)], ?_⟩
        rw [List.drop_eq_nil_of_le (by omega)] at h1
        have e0 : mg n [] (m.drop j) lo = [] := by cases n <;> rfl
        rw [e0, List.append_nil] at h1
        rw [← h1]
        exact ⟨_, _, _, _, rfl⟩)
    ⟨0, 0, l.length + m.length, [], a, .no, rfl, rfl, hl.rb, hm.rb, Nat.le_refl _, Nat.zero_le _, Nat.zero_le _, Nat.zero_le _⟩
  exact ⟨s3, s4, s5, s6, e⟩
theorem Gz.add {D : Int} {m n k : Nat} {p q : Rat} (hp : Gz D m p) (hq : Gz D n q) (h1 : m < k) (h2 : n < k) : Gz D k (p + q) := by
  obtain ⟨t, e1, b1⟩ := hp
  obtain ⟨s, e2, b2⟩ := hq
  refine ⟨t + s, by rw [Rat.intCast_add]; grind, ?_⟩
  have h0 := Int.natAbs_add_le t s
  have h3 : 2 ^ m ≤ 2 ^ (k - 1) := Nat.pow_le_pow_right (by decide) (by omega)
  have h4 : 2 ^ n ≤ 2 ^ (k - 1) := Nat.pow_le_pow_right (by decide) (by omega)
  have h5 : 2 ^ k = 2 ^ (k - 1) * 2 := by rw [← Nat.pow_succ]; congr 1; omega
  omega
theorem Gz.mulG {D E : Int} {m n : Nat} {p q : Rat} (hp : Gz D m p) (hq : Gz E n q) : Gz (D * E) (m + n) (p * q) := by
  obtain ⟨t, e1, b1⟩ := hp
  obtain ⟨s, e2, b2⟩ := hq
  refine ⟨t * s, by rw [Rat.intCast_mul, Rat.intCast_mul]; grind, ?_⟩
  rw [Int.natAbs_mul, Nat.pow_add]
  exact Nat.mul_lt_mul'' b1 b2
theorem snoc_ind {α : Type} {P : List α → Prop} (h0 : P []) (h1 : ∀ l a, P l → P (l ++ [a])) (l : List α) : P l := by
  have : ∀ r : List α, P r.reverse := fun r => by
    induction r with
    | nil => exact h0
    | cons a r ih => rw [List.reverse_cons]; exact h1 _ _ ih
  have h := this l.reverse
  rwa [List.reverse_reverse] at h
theorem snoc_cases {α : Type} (l : List α) : l = [] ∨ ∃ r a, l = r ++ [a] := by
  refine snoc_ind (P := fun l => l = [] ∨ ∃ r a, l = r ++ [a]) (.inl rfl) (fun l a _ => .inr ⟨l, a, rfl⟩) l
theorem ixN_last (n : Nat) : L2.ixN (n + 1) (-1) = some n := by
  unfold L2.ixN
  rw [if_neg (by omega), if_pos (by omega)]
  congr 1
  omega
theorem atI_last {α : Type} (r : List α) (a : α) : L2.atI (r ++ [a]) (-1) = some a := by
  unfold L2.atI
  rw [List.length_append, List.length_singleton, ixN_last]
  show (r ++ [a])[r.length]? = some a
  rw [List.getElem?_append_right (Nat.le_refl _), Nat.sub_self]; rfl

abbrev Pc := Rat × Rat × List Rat
theorem noL_mD (c : Mc) : noL (mD c) = true := by
  unfold mD noL noLs
  simp only [noL_num, noL_cD, noLs, Bool.and_self]
theorem noLs_mD : ∀ l : List Mc, noLs (l.map mD) = true
  | [] => rfl
  | c :: r => by rw [List.map_cons]; unfold noLs; rw [noL_mD, noLs_mD r]; rfl
theorem P_overlaid (l m : List Zc) (a b : Int) (hl : Rn l a b) (hm : Rn m a b) (l0 : l ≠ []) (sl : l.length ≤ 8) (sm : m.length ≤ 8) (zl : ∀ p ∈ l, p.2.1.natAbs ≤ 1000) (zm : ∀ p ∈ m, p.2.1.natAbs ≤ 1000) :
    F_overlaid [.tuple ((l.map zP).map pD), .tuple ((m.map zP).map pD)] = okM (.fresh ((mg (l.length + m.length) l m a).map mD)) := by
  obtain ⟨p, r, rfl⟩ : ∃ p r, l = p :: r := by cases l with | nil => exact absurd rfl l0 | cons p r => exact ⟨p, r, rfl⟩
  obtain ⟨q, s, rfl⟩ : ∃ q s, m = q :: s := by
    cases m with
    | nil => have : a = b := hm; have := hl.2.2.le; have := hl.2.1; omega
    | cons q s => exact ⟨q, s, rfl⟩
  have last : ∀ (p : Zc) (r : List Zc) (a : Int), Rn (p :: r) a b → ∃ t z, p :: r = t ++ [z] ∧ z.2.1 = b := fun p r => by
    induction r generalizing p with
    | nil => intro a h; exact ⟨[], p, rfl, h.2.2⟩
    | cons q s ih =>
      intro a h
      obtain ⟨t, z, e, hz⟩ := ih q _ h.2.2
      exact ⟨p :: t, z, by rw [e]; rfl, hz⟩
  obtain ⟨t1, z1, e1, hz1⟩ := last p r a hl
  obtain ⟨t2, z2, e2, hz2⟩ := last q s a hm
  refine ev_fn rfl ?_
  show B_overlaid [.dat (.tuple (((p :: r).map zP).map pD)), .dat (.tuple (((q :: s).map zP).map pD)), .no, .no, .no, .no, .no] = _
  unfold B_overlaid
  have i0 : gIx (.dat (.tuple (((p :: r).map zP).map pD))) (.dat (.int 0)) = okM (.dat (pD (zP p))) := ix_tup (j := 0) rfl rfl
  have j0 : gIx (.dat (.tuple (((q :: s).map zP).map pD))) (.dat (.int 0)) = okM (.dat (pD (zP q))) := ix_tup (j := 0) rfl rfl
  have iz : gIx (.dat (.tuple (((p :: r).map zP).map pD))) (.dat (.int (-1))) = okM (.dat (pD (zP z1))) := by
    unfold gIx seqOf Rz.d?; dsimp only
    rw [show L2.atI (((p :: r).map zP).map pD) (-1) = some (pD (zP z1)) by rw [e1, List.map_append, List.map_append]; exact atI_last _ _]; rfl
  have jz : gIx (.dat (.tuple (((q :: s).map zP).map pD))) (.dat (.int (-1))) = okM (.dat (pD (zP z2))) := by
    unfold gIx seqOf Rz.d?; dsimp only
    rw [show L2.atI (((q :: s).map zP).map pD) (-1) = some (pD (zP z2)) by rw [e2, List.map_append, List.map_append]; exact atI_last _ _]; rfl
  have ne : ∀ x y : Int, x = y → gEq true (.dat (nD (x : Rat))) (.dat (nD (y : Rat))) = okM (.dat (.bool false)) := fun x y h => by
    subst h
    exact gNeD (b := false) rfl rfl (ok_num _) (ok_num _) (by rw [eqv_num, decide_eq_true rfl]; rfl)
  refine ev_sifF (ev_orF (ev_fB (ev_f2 (ev_f2 (ev_f2 rfl rfl i0) rfl ix_t0) (ev_f2 (ev_f2 rfl rfl j0) rfl ix_t0) (ne p.1 q.1 (by rw [hl.1, hm.1]))) rfl) (ev_fB (ev_f2 (ev_f2 (ev_f2 rfl (ev_fU rfl rfl) iz) rfl ix_t1) (ev_f2 (ev_f2 rfl (ev_fU rfl rfl) jz) rfl ix_t1) (ne z1.2.1 z2.2.1 (by rw [hz1, hz2]))) rfl)) (ev_snext ?_)
  refine ev_sset (x := .new []) (ev_call rfl rfl) rfl (by walk_at "ss") ?_
  have ea : (zP p).1 = (a : Rat) := by show ((p.1 : Int) : Rat) = _; rw [hl.1]
  refine ev_sset (x := .dat (nD (a : Rat))) (ev_f2 (ev_f2 rfl rfl i0) rfl (by rw [← ea]; exact ix_t0)) rfl (by walk_at "ss") ?_
  refine ev_sset rfl rfl (by walk_at "ss") ?_
  refine ev_sset rfl rfl (by walk_at "ss") ?_
  obtain ⟨s3, s4, s5, s6, e⟩ := ov_loop (p :: r) (q :: s) a b hl hm sl sm zl zm
  exact ev_seq e (ev_ret rfl (by unfold outOf; dsimp only; rw [if_pos (noLs_mD _)]))
/-- small curves -/
structure Cz (l : List Rat) : Prop where
  tr : trim l = l
  len : l.length ≤ 6
  gz : ∀ v ∈ l, Gz 2 3 v
theorem Cz.sz {l : List Rat} (h : Cz l) : ∀ v ∈ l, NB.Sz 600 v := fun v hv => ((h.gz v hv).mono (n := 600) (by decide)).sz (by decide) (Nat.lt_of_lt_of_le (show (2 : Int).natAbs < 2 ^ 2 by decide) (Nat.pow_le_pow_right (by decide) (by decide)))
def smT (w : Nat) (l m : List Rat) : List Rat := if w = 0 then trim (addP 1 l m) else trim (mulL l m)
theorem smT_comm (w : Nat) (l m : List Rat) : smT w l m = smT w m l := by
  unfold smT
  split
  · exact trim_inj fun x => by rw [addP_ev, addP_ev]; grind
  · exact trim_inj fun x => by rw [mulL_ev, mulL_ev]; grind
theorem P_add (l m : List Rat) (hl : Cz l) (hm : Cz m) : F_added [cD l, cD m] = okM (.val (cD (smT 0 l m))) := by
  refine P_added l m (fun v hv => (hl.sz v hv).mono (by decide)) (fun v hv => (hm.sz v hv).mono (by decide)) (by have := hl.len; omega) (by have := hm.len; omega) ?_
  have := trim_len (addP 1 l m)
  have h1 := hl.len
  have h2 := hm.len
  rw [addP_len] at this
  omega
theorem L_add (l m : List Rat) (hl : Cz l) (hm : Cz m) : F__law_sum [cD l, cD m] = okM (.val (cD (smT 0 l m))) :=
  L_sum l m (fun v hv => (hl.sz v hv).mono (by decide)) (fun v hv => (hm.sz v hv).mono (by decide)) (by have := hl.len; omega) (by have := hm.len; omega)
theorem pdz : ∀ (l m : List Rat) (hl : Cz l) (hm : Cz m) (j : Nat) (v : Rat), Gz 4 (6 + j) v → ∀ a ∈ l, ∀ c ∈ m, Gz 4 (6 + (j + 1)) (v + a * c) := fun l m hl hm j v hv a ha c hc => by
  have := (hl.gz a ha).mulG (hm.gz c hc)
  exact hv.add this (by omega) (by omega)
theorem P_mul (l m : List Rat) (hl : Cz l) (hm : Cz m) : F_multiplied [cD l, cD m] = okM (.val (cD (smT 1 l m))) := by
  have e0 : ∀ l m : List Rat, l = [] ∨ m = [] → smT 1 l m = [] := fun l m h => by
    have : smT 1 l m = trim [] := trim_inj fun x => by rw [mulL_ev]; rcases h with rfl | rfl <;> simp only [ev] <;> grind
    rw [this]; rfl
  have l1 := hl.len
  have m1 := hm.len
  by_cases cl : l = []
  · rw [e0 l m (.inl cl)]
    subst cl
    refine ev_fn rfl ?_
    show B_multiplied [.dat (cD []), .dat (cD m), .no, .no, .no, .no] = _
    unfold B_multiplied
    exact ev_sifT (ev_orT (ev_fB (ev_f2 (ev_call rfl (len_cD _)) rfl (gEq_int _ _)) rfl)) (ev_sret rfl rfl)
  by_cases cm : m = []
  · rw [e0 l m (.inr cm)]
    subst cm
    refine ev_fn rfl ?_
    show B_multiplied [.dat (cD l), .dat (cD []), .no, .no, .no, .no] = _
    unfold B_multiplied
    have lp := List.length_pos_iff.mpr cl
    exact ev_sifT (ev_orF (ev_fB (ev_f2 (ev_call rfl (len_cD _)) rfl (gEq_int _ _)) (by rw [decide_eq_false (by omega)]; rfl)) (ev_fB (ev_f2 (ev_call rfl (len_cD _)) rfl (gEq_int _ _)) rfl)) (ev_sret rfl rfl)
  obtain ⟨F, f1, f2, f3, f4, _⟩ := mu_all l m (fun j v => Gz 4 (6 + j) v) (Gz.zero _ _) (fun j v h => h.mono (by omega)) (pdz l m hl hm)
    (fun j v hj h => (h.mono (n := 2500) (by omega)).sz (by decide) (Nat.lt_of_lt_of_le (show (4 : Int).natAbs < 2 ^ 3 by decide) (Nat.pow_le_pow_right (by decide) (by decide)))) hl.sz hm.sz (by omega) (by omega) cl cm
  have e1 : trim F = smT 1 l m := trim_inj fun x => by rw [f2, mulL_ev]
  have tl := trim_len F
  have := P_curve_of F (by omega)
  rw [e1] at this
  exact f4 _ this (noL_cD _)
theorem trim_zero (n : Nat) : trim (List.replicate n (0 : Rat)) = [] := by
  have : trim (List.replicate n (0 : Rat)) = trim [] := trim_inj fun x => by rw [ev_zeros]; rfl
  rw [this]; rfl
theorem L_mul (l m : List Rat) (hl : Cz l) (hm : Cz m) : F__law_product [cD l, cD m] = okM (.val (cD (smT 1 l m))) := by
  have e0 : ∀ l m : List Rat, l = [] ∨ m = [] → smT 1 l m = [] := fun l m h => by
    have : smT 1 l m = trim [] := trim_inj fun x => by rw [mulL_ev]; rcases h with rfl | rfl <;> simp only [ev] <;> grind
    rw [this]; rfl
  have l1 := hl.len
  have m1 := hm.len
  by_cases cn : l ≠ [] ∧ m ≠ []
  · obtain ⟨F, f1, f2, f3, f4⟩ := L_product l m (fun j v => Gz 4 (6 + j) v) (Gz.zero _ _) (fun j v h => h.mono (by omega)) (pdz l m hl hm)
      (fun j v hj h => (h.mono (n := 2500) (by omega)).sz (by decide) (Nat.lt_of_lt_of_le (show (4 : Int).natAbs < 2 ^ 3 by decide) (Nat.pow_le_pow_right (by decide) (by decide)))) hl.sz hm.sz (by omega) (by omega) cn.1 cn.2
    rw [f4, show trim F = smT 1 l m from trim_inj fun x => by rw [f2, mulL_ev]]
  · have hc : l = [] ∨ m = [] := by
      by_cases c : l = []
      · exact .inl c
      · by_cases c2 : m = []
        · exact .inr c2
        · exact absurd ⟨c, c2⟩ cn
    obtain ⟨n, hn⟩ : ∃ n : Nat, n = l.length + m.length - 1 := ⟨_, rfl⟩
    obtain ⟨δ2, f, s3, s4, rfl⟩ := forN_inv (g := tName 3) (b := (fFor (fR rng1 (fCons (fCall (g1 lenOf) (fCons (fVar 1) fNil)) fNil)) (tName 4) (fPut 2 (fCall (gF 2 F__law_plus) (fCons (f2 gIx (fVar 2) (f2 (gI gAdd) (fVar 3) (fVar 4))) (fCons (fCall (gF 2 F__law_times) (fCons (f2 gIx (fVar 0) (fVar 3)) (fCons (f2 gIx (fVar 1) (fVar 4)) fNil))) fNil))) (f2 (gI gAdd) (fVar 3) (fVar 4))))) (δ := [.dat (cD l), .dat (cD m), .own ((List.replicate n 0).map nD), .no, .no])
      (fun i δ => ∃ (s3 s4 : Sl), δ = [.dat (cD l), .dat (cD m), .own ((List.replicate n 0).map nD), s3, s4]) (rangeL 0 l.length) ⟨.no, .no, rfl⟩
      (by
        rintro j d δ hd ⟨s3, s4, rfl⟩
        obtain ⟨hj, rfl⟩ := range_at hd
        have hm0 : m = [] := by
          rcases hc with rfl | h
          · simp at hj
          · exact h
        subst hm0
        exact ⟨_, _, rfl, .inl (ev_for (ev_rng1 (m := 0) (ev_cons (ev_call rfl (len_cD [])) rfl) (by decide) (by decide) (by decide)) rfl), _, _, rfl⟩)
    rw [e0 l m hc, ← trim_zero n]
    refine ev_fn rfl ?_
    show B__law_product [.dat (cD l), .dat (cD m), .no, .no, .no] = _
    unfold B__law_product
    refine ev_sset (x := .new ((List.replicate n (0 : Rat)).map nD)) (ev_f2 (y := .dat (.int (n : Int))) (ev_call rfl rfl) (ev_call (ev_cons rfl (ev_cons (ev_f2 (ev_f2 (ev_call rfl (len_cD l)) (ev_call rfl (len_cD m)) rfl) rfl rfl) rfl)) ?_) (rep_nD n (by omega))) rfl (by walk_at "ss") (ev_seq (ev_for (ev_rng1 (m := l.length) (ev_cons (ev_call rfl (len_cD l)) rfl) (by omega) (by omega) (by omega)) f) (ev_ret (ev_call rfl (ev_gF (ds := [lD (List.replicate n 0)]) rfl rfl (L_clean _) (outZ_cur _))) rfl))
    show okM (Rz.dat (PyData.int (if (l.length : Int) + (m.length : Int) - 1 > 0 then (l.length : Int) + (m.length : Int) - 1 else 0))) = _
    congr 4
    split <;> omega

theorem ev_retX {δ : List Sl} {f : List Sl → M Rz} {C : Ex} (h : f δ = some (.err C)) : fRet f δ = some (.exc C) := by unfold fRet; rw [h]; rfl
theorem ev_callX {δ : List Sl} {g : List Rz → M Rz} {fa : List Sl → M (List Rz)} {zs : List Rz} {C : Ex} (h1 : fa δ = okM zs) (h2 : g zs = some (.err C)) : fCall g fa δ = some (.err C) := by unfold fCall; rw [h1, bnd_okM, h2]
theorem ev_fIX {δ : List Sl} {g : Rz → M (List PyData)} {f : List Sl → M Rz} {C : Ex} (h : f δ = some (.err C)) : fI g f δ = some (.err C) := by unfold fI; rw [h]; rfl
theorem ev_lcX {δ : List Sl} {fi : List Sl → M (List PyData)} {ft : List Sl → M Bool} {fe : List Sl → M Rz} {C : Ex} (h : fi δ = some (.err C)) : fLC fi ft fe δ = some (.err C) := by unfold fLC; rw [h]; rfl
theorem ev_consX {δ : List Sl} {f : List Sl → M Rz} {g : List Sl → M (List Rz)} {C : Ex} (h : f δ = some (.err C)) : fCons f g δ = some (.err C) := by unfold fCons; rw [h]; rfl
theorem ev_callE {δ : List Sl} {g : List Rz → M Rz} {fa : List Sl → M (List Rz)} {C : Ex} (h : fa δ = some (.err C)) : fCall g fa δ = some (.err C) := by unfold fCall; rw [h]; rfl
def cP (w : Nat) (c : Mc) : Pc := ((c.1 : Rat), (c.2.1 : Rat), smT w c.2.2.1 c.2.2.2)
/-- a row of whole joints, small curves -/
structure Rw (l : List Zc) (a b : Int) : Prop where
  rn : Rn l a b
  ne : l ≠ []
  len : l.length ≤ 8
  z : ∀ p ∈ l, p.2.1.natAbs ≤ 1000
  cz : ∀ p ∈ l, Cz p.2.2
abbrev MG (l m : List Zc) (a : Int) : List Mc := mg (l.length + m.length) l m a
theorem Rw.mg {l m : List Zc} {a b : Int} (hl : Rw l a b) (hm : Rw m a b) : Mg l m a (MG l m a) := mg_ok _ l m a b hl.rn.rb hm.rn.rb (Nat.le_refl _)
theorem Rw.cz2 {l m : List Zc} {a b : Int} (hl : Rw l a b) (hm : Rw m a b) : ∀ c ∈ MG l m a, Cz c.2.2.1 ∧ Cz c.2.2.2 := fun c hc => by
  obtain ⟨⟨p, a1, _, _, a2⟩, ⟨q, b1, _, _, b2⟩⟩ := (hl.mg hm).cur c hc
  rw [a2, b2]
  exact ⟨hl.cz p a1, hm.cz q b1⟩
theorem mg_len : ∀ (n : Nat) (l m : List Zc) (a : Int), (mg n l m a).length ≤ l.length + m.length
  | 0, _, _, _ => Nat.zero_le _
  | _ + 1, [], _, _ => Nat.zero_le _
  | _ + 1, _ :: _, [], _ => Nat.zero_le _
  | n + 1, p :: r, q :: s, a => by
    rw [mg_cons]
    have h1 := mg_len n r (q :: s) p.2.1
    have h2 := mg_len n (p :: r) s q.2.1
    have h3 := mg_len n r s p.2.1
    simp only [List.length_cons] at *
    split
    · simp only [List.length_cons]; omega
    · split
      · simp only [List.length_cons]; omega
      · simp only [List.length_cons]; omega

theorem P_overlaidX {ps qs : List Pc} {p q y z : Pc} (hp : ps.head? = some p) (hq : qs.head? = some q) (hy : ps.getLast? = some y) (hz : qs.getLast? = some z) (h : p.1 ≠ q.1 ∨ y.2.1 ≠ z.2.1) : F_overlaid [.tuple (ps.map pD), .tuple (qs.map pD)] = some (.err .NoPieces) := by
  refine ev_fnX rfl ?_
  show B_overlaid [.dat (.tuple (ps.map pD)), .dat (.tuple (qs.map pD)), .no, .no, .no, .no, .no] = _
  unfold B_overlaid
  have h0 : ∀ {l : List Pc} {p : Pc}, l.head? = some p → gIx (.dat (.tuple (l.map pD))) (.dat (.int 0)) = okM (.dat (pD p)) := fun {l p} h => ix_tup (j := 0) rfl (by cases l with | nil => cases h | cons a r => cases h; rfl)
  have h1 : ∀ {l : List Pc} {p : Pc}, l.getLast? = some p → gIx (.dat (.tuple (l.map pD))) (.dat (.int (-1))) = okM (.dat (pD p)) := fun {l p} h => by
    unfold gIx seqOf Rz.d?; dsimp only
    rw [show L2.atI (l.map pD) (-1) = some (pD p) by
      rcases snoc_cases l with rfl | ⟨t, a, rfl⟩
      · cases h
      · rw [List.getLast?_concat] at h; cases h; rw [List.map_append]; exact atI_last _ _]; rfl
  have ne : ∀ x y : Rat, gEq true (.dat (nD x)) (.dat (nD y)) = okM (.dat (.bool (!decide (x = y)))) := fun x y => gNeD rfl rfl (ok_num _) (ok_num _) (by rw [eqv_num, Bool.not_not])
  refine ev_sifT ?_ (ev_seqX rfl)
  refine (ev_or (a := !decide (p.1 = q.1)) (b := !decide (y.2.1 = z.2.1)) (ev_fB (ev_f2 (ev_f2 (ev_f2 rfl rfl (h0 hp)) rfl ix_t0) (ev_f2 (ev_f2 rfl rfl (h0 hq)) rfl ix_t0) (ne _ _)) rfl) (fun _ => ?_)).trans ?_
  · exact ev_fB (ev_f2 (ev_f2 (ev_f2 rfl (ev_fU rfl rfl) (h1 hy)) rfl ix_t1) (ev_f2 (ev_f2 rfl (ev_fU rfl rfl) (h1 hz)) rfl ix_t1) (ne _ _)) rfl
  congr 1
  rcases h with h | h
  · rw [decide_eq_false h]; rfl
  · rw [decide_eq_false h, Bool.not_false, Bool.or_true]
theorem lc_0 {l m : List Zc} {a b : Int} (hl : Rw l a b) (hm : Rw m a b) : (fLC (fI itemsL (fCall (gF 2 F_overlaid) (fCons (fVar 0) (fCons (fVar 1) fNil)))) fTrue (fCall D3.gTup (fCons (f2 gIx (fVar 0) (fC (.int 0))) (fCons (f2 gIx (fVar 0) (fC (.int 1))) (fCons (fCall (gF 2 F_added) (fCons (f2 gIx (fVar 0) (fC (.int 2))) (fCons (f2 gIx (fVar 0) (fC (.int 3))) fNil))) fNil))))) [.dat (.tuple ((l.map zP).map pD)), .dat (.tuple ((m.map zP).map pD))] = okM (.new (((MG l m a).map (cP 0)).map pD)) := by
  have szl : (sizeLine : Nat) = 16777216 := rfl
  have hlen := mg_len (l.length + m.length) l m a
  have l8 := hl.len
  have m8 := hm.len
  have hov : (fI itemsL (fCall (gF 2 F_overlaid) (fCons (fVar 0) (fCons (fVar 1) fNil)))) [.dat (.tuple ((l.map zP).map pD)), .dat (.tuple ((m.map zP).map pD))] = okM ((MG l m a).map mD) := ev_fI (x := .new ((MG l m a).map mD)) (ev_call (ev_cons rfl (ev_cons rfl rfl)) (ev_gF (ds := [.tuple ((l.map zP).map pD), .tuple ((m.map zP).map pD)]) rfl rfl (P_overlaid l m a b hl.rn hm.rn hl.ne l8 m8 hl.z hm.z) rfl)) rfl
  unfold fLC
  rw [hov, bnd_okM, if_pos (by rw [List.length_map]; show (mg _ _ _ _).length < _; omega), lc_any mD (fun c => pD (cP 0 c)) _ _ (MG l m a) ?_]
  · rw [List.map_map]; rfl
  · intro c hc
    obtain ⟨c1, c2⟩ := hl.cz2 hm c hc
    exact ⟨.dat (pD (cP 0 c)), ev_call (ev_cons (ev_f2 rfl rfl ix_t0) (ev_cons (ev_f2 rfl rfl ix_t1) (ev_cons (ev_call (ev_cons (ev_f2 rfl rfl (ix_tup (j := 2) rfl rfl)) (ev_cons (ev_f2 rfl rfl (ix_tup (j := 3) rfl rfl)) rfl)) (ev_gF rfl rfl (P_add _ _ c1 c2) (outZ_cur _))) rfl))) rfl, rfl⟩
theorem P_rows0 {l m : List Zc} {a b : Int} (hl : Rw l a b) (hm : Rw m a b) (h : F_row_of [.list (((MG l m a).map (cP 0)).map pD)] = okM (.val (.tuple (((MG l m a).map (cP 0)).map pD)))) : F_rows_added [.tuple ((l.map zP).map pD), .tuple ((m.map zP).map pD)] = okM (.val (.tuple (((MG l m a).map (cP 0)).map pD))) := by
  refine ev_fn rfl ?_
  show B_rows_added [.dat (.tuple ((l.map zP).map pD)), .dat (.tuple ((m.map zP).map pD))] = _
  unfold B_rows_added
  exact ev_ret (ev_call (ev_cons (lc_0 hl hm) rfl) (ev_gF (ds := [.list (((MG l m a).map (cP 0)).map pD)]) rfl rfl h (outZ_row _))) rfl
theorem P_rows0X {l m : List Zc} {a b : Int} (hl : Rw l a b) (hm : Rw m a b) {C : Ex} (h : F_row_of [.list (((MG l m a).map (cP 0)).map pD)] = some (.err C)) : F_rows_added [.tuple ((l.map zP).map pD), .tuple ((m.map zP).map pD)] = some (.err C) := by
  refine ev_fnX rfl ?_
  show B_rows_added [.dat (.tuple ((l.map zP).map pD)), .dat (.tuple ((m.map zP).map pD))] = _
  unfold B_rows_added
  exact ev_retX (ev_callX (ev_cons (lc_0 hl hm) rfl) (ev_gFX (ds := [.list (((MG l m a).map (cP 0)).map pD)]) rfl rfl h))
/-- both rows do not begin alike or do not end alike -/
theorem P_rows0E {ps qs : List Pc} {p q y z : Pc} (hp : ps.head? = some p) (hq : qs.head? = some q) (hy : ps.getLast? = some y) (hz : qs.getLast? = some z) (h : p.1 ≠ q.1 ∨ y.2.1 ≠ z.2.1) : F_rows_added [.tuple (ps.map pD), .tuple (qs.map pD)] = some (.err .NoPieces) := by
  refine ev_fnX rfl ?_
  show B_rows_added [.dat (.tuple (ps.map pD)), .dat (.tuple (qs.map pD))] = _
  unfold B_rows_added
  refine ev_retX ?_
  exact ev_callE (ev_consX (ev_lcX (ev_fIX (ev_callX (ev_cons rfl (ev_cons rfl rfl)) (ev_gFX (ds := [.tuple (ps.map pD), .tuple (qs.map pD)]) rfl rfl (P_overlaidX hp hq hy hz h))))))

theorem lc_1 {l m : List Zc} {a b : Int} (hl : Rw l a b) (hm : Rw m a b) : (fLC (fI itemsL (fCall (gF 2 F_overlaid) (fCons (fVar 0) (fCons (fVar 1) fNil)))) fTrue (fCall D3.gTup (fCons (f2 gIx (fVar 0) (fC (.int 0))) (fCons (f2 gIx (fVar 0) (fC (.int 1))) (fCons (fCall (gF 2 F_multiplied) (fCons (f2 gIx (fVar 0) (fC (.int 2))) (fCons (f2 gIx (fVar 0) (fC (.int 3))) fNil))) fNil))))) [.dat (.tuple ((l.map zP).map pD)), .dat (.tuple ((m.map zP).map pD))] = okM (.new (((MG l m a).map (cP 1)).map pD)) := by
  have szl : (sizeLine : Nat) = 16777216 := rfl
  have hlen := mg_len (l.length + m.length) l m a
  have l8 := hl.len
  have m8 := hm.len
  have hov : (fI itemsL (fCall (gF 2 F_overlaid) (fCons (fVar 0) (fCons (fVar 1) fNil)))) [.dat (.tuple ((l.map zP).map pD)), .dat (.tuple ((m.map zP).map pD))] = okM ((MG l m a).map mD) := ev_fI (x := .new ((MG l m a).map mD)) (ev_call (ev_cons rfl (ev_cons rfl rfl)) (ev_gF (ds := [.tuple ((l.map zP).map pD), .tuple ((m.map zP).map pD)]) rfl rfl (P_overlaid l m a b hl.rn hm.rn hl.ne l8 m8 hl.z hm.z) rfl)) rfl
  unfold fLC
  rw [hov, bnd_okM, if_pos (by rw [List.length_map]; show (mg _ _ _ _).length < _; omega), lc_any mD (fun c => pD (cP 1 c)) _ _ (MG l m a) ?_]
  · rw [List.map_map]; rfl
  · intro c hc
    obtain ⟨c1, c2⟩ := hl.cz2 hm c hc
    exact ⟨.dat (pD (cP 1 c)), ev_call (ev_cons (ev_f2 rfl rfl ix_t0) (ev_cons (ev_f2 rfl rfl ix_t1) (ev_cons (ev_call (ev_cons (ev_f2 rfl rfl (ix_tup (j := 2) rfl rfl)) (ev_cons (ev_f2 rfl rfl (ix_tup (j := 3) rfl rfl)) rfl)) (ev_gF rfl rfl (P_mul _ _ c1 c2) (outZ_cur _))) rfl))) rfl, rfl⟩
theorem P_rows1 {l m : List Zc} {a b : Int} (hl : Rw l a b) (hm : Rw m a b) (h : F_row_of [.list (((MG l m a).map (cP 1)).map pD)] = okM (.val (.tuple (((MG l m a).map (cP 1)).map pD)))) : F_rows_multiplied [.tuple ((l.map zP).map pD), .tuple ((m.map zP).map pD)] = okM (.val (.tuple (((MG l m a).map (cP 1)).map pD))) := by
  refine ev_fn rfl ?_
  show B_rows_multiplied [.dat (.tuple ((l.map zP).map pD)), .dat (.tuple ((m.map zP).map pD))] = _
  unfold B_rows_multiplied
  exact ev_ret (ev_call (ev_cons (lc_1 hl hm) rfl) (ev_gF (ds := [.list (((MG l m a).map (cP 1)).map pD)]) rfl rfl h (outZ_row _))) rfl
theorem P_rows1X {l m : List Zc} {a b : Int} (hl : Rw l a b) (hm : Rw m a b) {C : Ex} (h : F_row_of [.list (((MG l m a).map (cP 1)).map pD)] = some (.err C)) : F_rows_multiplied [.tuple ((l.map zP).map pD), .tuple ((m.map zP).map pD)] = some (.err C) := by
  refine ev_fnX rfl ?_
  show B_rows_multiplied [.dat (.tuple ((l.map zP).map pD)), .dat (.tuple ((m.map zP).map pD))] = _
  unfold B_rows_multiplied
  exact ev_retX (ev_callX (ev_cons (lc_1 hl hm) rfl) (ev_gFX (ds := [.list (((MG l m a).map (cP 1)).map pD)]) rfl rfl h))
/-- both rows do not begin alike or do not end alike -/
theorem P_rows1E {ps qs : List Pc} {p q y z : Pc} (hp : ps.head? = some p) (hq : qs.head? = some q) (hy : ps.getLast? = some y) (hz : qs.getLast? = some z) (h : p.1 ≠ q.1 ∨ y.2.1 ≠ z.2.1) : F_rows_multiplied [.tuple (ps.map pD), .tuple (qs.map pD)] = some (.err .NoPieces) := by
  refine ev_fnX rfl ?_
  show B_rows_multiplied [.dat (.tuple (ps.map pD)), .dat (.tuple (qs.map pD))] = _
  unfold B_rows_multiplied
  refine ev_retX ?_
  exact ev_callE (ev_consX (ev_lcX (ev_fIX (ev_callX (ev_cons rfl (ev_cons rfl rfl)) (ev_gFX (ds := [.tuple (ps.map pD), .tuple (qs.map pD)]) rfl rfl (P_overlaidX hp hq hy hz h))))))

/-! what the law hears -/
theorem tl_end (C : Ex) (nm : Str) (h : (C = .NoPieces ∧ nm = "pieces") ∨ (C = .TooGreat ∧ nm = "great")) (d0 d1 d2 : PyData) (s3 : Sl) : ∃ s5 s6, afterH 4 ((fSeq (fSet 3 (fC (.str "other")))
    (fSeq (fSet 5 (fU (gIsi (aX true false false)) (fVar 4)))
    (fSeq (fIfS (fAnd (fNot (fB (fVar 5))) (fB (fU (gIsi (aX true true true)) (fVar 4)))) (fSeq (fSet 6 (fCall D3.gLst (fCons (fU (gIsi (aX false true false)) (fVar 4)) (fCons (fU (gIsi (aX false false true)) (fVar 4)) fNil))))
    (fSeq (fIfS (fSum 6 4) (fSeq (fSet 3 (f2 gIx (fCall D3.gLst (fCons (fC (.str "pieces")) (fCons (fC (.str "great")) fNil))) (fU gIdx (fVar 6))))
    fNext) fNext)
    fNext)) fNext)
    fNext))) [.dat d0, .dat d1, .dat d2, s3, .exc C, .no, .no]) = some (.next [.dat d0, .dat d1, .dat d2, .dat (.str nm), .no, s5, s6]) := by
  rcases h with ⟨rfl, rfl⟩ | ⟨rfl, rfl⟩ <;> exact ⟨_, _, rfl⟩
theorem told_go (w : Nat) (hw : w = 0 ∨ w = 1) (d1 d2 : PyData) : ∀ o : Res Rz, (if w = 0 then gF 2 F_rows_added [.dat d1, .dat d2] else gF 2 F_rows_multiplied [.dat d1, .dat d2]) = some o →
    (xSeq (xIf (fB (f2 (gEq false) (fVar 0) (fC (.int 0)))) (xSeq (xCal (gF 2 F_rows_added) (fCons (fVar 1) (fCons (fVar 2) fNil)) (kSet 3)) xNext) (xSeq (xCal (gF 2 F_rows_multiplied) (fCons (fVar 1) (fCons (fVar 2) fNil)) (kSet 3)) xNext)) xNext) [.dat (.int (w : Int)), .dat d1, .dat d2, .dat .none, .no, .no, .no] = match o with
      | .ok z => (match slotOf z with | some s => some (.next [.dat (.int (w : Int)), .dat d1, .dat d2, s, .no, .no, .no]) | none => none)
      | .err C => some (.exc C [.dat (.int (w : Int)), .dat d1, .dat d2, .dat .none, .no, .no, .no]) := by
  intro o h
  rcases hw with rfl | rfl
  · rw [if_pos rfl] at h
    unfold xSeq xIf
    rw [show fB (f2 (gEq false) (fVar 0) (fC (.int 0))) [Sl.dat (.int ((0 : Nat) : Int)), .dat d1, .dat d2, .dat .none, .no, .no, .no] = okM true from ev_fB (ev_f2 rfl rfl (gEq_int _ _)) rfl]
    unfold okM
    dsimp only
    rw [if_pos rfl]
    unfold xCal
    rw [show (fCons (fVar 1) (fCons (fVar 2) fNil)) [Sl.dat (.int ((0 : Nat) : Int)), .dat d1, .dat d2, .dat .none, .no, .no, .no] = okM [.dat d1, .dat d2] from rfl]
    unfold okM
    dsimp only
    rw [h]
    cases o with
    | err C => rfl
    | ok z =>
      dsimp only
      unfold kSet
      cases slotOf z <;> rfl
  · rw [if_neg (by decide)] at h
    unfold xSeq xIf
    rw [show fB (f2 (gEq false) (fVar 0) (fC (.int 0))) [Sl.dat (.int ((1 : Nat) : Int)), .dat d1, .dat d2, .dat .none, .no, .no, .no] = okM false from ev_fB (ev_f2 rfl rfl (gEq_int _ _)) rfl]
    unfold okM
    dsimp only
    rw [if_neg (by decide)]
    unfold xCal
    rw [show (fCons (fVar 1) (fCons (fVar 2) fNil)) [Sl.dat (.int ((1 : Nat) : Int)), .dat d1, .dat d2, .dat .none, .no, .no, .no] = okM [.dat d1, .dat d2] from rfl]
    unfold okM
    dsimp only
    rw [h]
    cases o with
    | err C => rfl
    | ok z =>
      dsimp only
      unfold kSet
      cases slotOf z <;> rfl
theorem L_toldX (w : Nat) (hw : w = 0 ∨ w = 1) (d1 d2 : PyData) (C : Ex) (nm : Str) (h : (C = .NoPieces ∧ nm = "pieces") ∨ (C = .TooGreat ∧ nm = "great")) (hg : (if w = 0 then gF 2 F_rows_added [.dat d1, .dat d2] else gF 2 F_rows_multiplied [.dat d1, .dat d2]) = some (.err C)) : F__law_told [.int (w : Int), d1, d2] = okM (.val (.str nm)) := by
  refine ev_fn rfl ?_
  show B__law_told [.dat (.int (w : Int)), .dat d1, .dat d2, .no, .no, .no, .no] = _
  unfold B__law_told
  refine ev_sset rfl rfl (by walk_at "ss") ?_
  obtain ⟨s5, s6, e⟩ := tl_end C nm h (.int (w : Int)) d1 d2 (.dat .none)
  have hC : decide (C ∈ ([Ex.NoNumber, Ex.NoPieces, Ex.TooGreat] : List Ex)) = true := by rcases h with ⟨rfl, rfl⟩ | ⟨rfl, rfl⟩ <;> decide
  refine ev_seq (δ' := [.dat (.int (w : Int)), .dat d1, .dat d2, .dat (.str nm), .no, s5, s6]) ?_ (ev_ret rfl rfl)
  unfold fTryJ
  rw [told_go w hw d1 d2 _ hg]
  dsimp only
  rw [if_pos ⟨hC, show 4 < 7 by decide⟩]
  exact e
theorem L_told (w : Nat) (hw : w = 0 ∨ w = 1) (d1 d2 d : PyData) (hg : (if w = 0 then gF 2 F_rows_added [.dat d1, .dat d2] else gF 2 F_rows_multiplied [.dat d1, .dat d2]) = okM (.dat d)) : F__law_told [.int (w : Int), d1, d2] = okM (.val d) := by
  refine ev_fn rfl ?_
  show B__law_told [.dat (.int (w : Int)), .dat d1, .dat d2, .no, .no, .no, .no] = _
  unfold B__law_told
  refine ev_sset rfl rfl (by walk_at "ss") ?_
  refine ev_seq (δ' := [.dat (.int (w : Int)), .dat d1, .dat d2, .dat d, .no, .no, .no]) ?_ (ev_ret rfl rfl)
  unfold fTryJ
  rw [told_go w hw d1 d2 _ hg]
  rfl

theorem L_less (p q : Rat) (zp : NB.Sz 4000 p) (zq : NB.Sz 4000 q) : F__law_less [nD p, nD q] = okM (.val (.bool (decide (p < q)))) := by
  refine ev_fn rfl ?_
  show B__law_less [.dat (nD p), .dat (nD q)] = _
  unfold B__law_less
  have m1 : ∀ {u v : Int}, u.natAbs < 2 ^ 4000 → v.natAbs < 2 ^ 4000 → IntMulOk u v := fun hu hv => mulOk hu hv (by decide)
  have dp : ((p.den : Nat) : Int).natAbs < 2 ^ 4000 := by rw [Int.natAbs_natCast]; exact zp.2
  have dq : ((q.den : Nat) : Int).natAbs < 2 ^ 4000 := by rw [Int.natAbs_natCast]; exact zq.2
  refine ev_ret (x := .dat (.bool (decide (p < q)))) (ev_f2 (ev_f2 (ev_f2 rfl rfl ix_t0) (ev_f2 rfl rfl ix_t1) (gMulI (m1 zp.1 dq))) (ev_f2 (ev_f2 rfl rfl ix_t0) (ev_f2 rfl rfl ix_t1) (gMulI (m1 zq.1 dp))) ?_) rfl
  show okM (Rz.dat (PyData.bool (decide (p.num * (q.den : Int) < q.num * (p.den : Int))))) = _
  congr 3
  exact decide_eq_decide.mpr (Rat.lt_iff p q).symm
/-- the curve at a place -/
def cv (x : Int) (l : List Zc) (f : List Rat) : List Rat := l.foldl (fun acc p => if p.1 ≤ x then p.2.2 else acc) f
theorem cv_snoc (x : Int) (l : List Zc) (p : Zc) (f : List Rat) : cv x (l ++ [p]) f = if p.1 ≤ x then p.2.2 else cv x l f := by unfold cv; rw [List.foldl_append]; rfl
theorem cv_no : ∀ {l : List Zc} {a b x : Int}, Rn l a b → x < a → ∀ f, cv x l f = f
  | [], _, _, _, _, _, _ => rfl
  | p :: r, a, b, x, h, hx, f => by
    show cv x r (if p.1 ≤ x then p.2.2 else f) = f
    rw [if_neg (by have := h.1; omega)]
    exact cv_no h.2.2 (by have := h.2.1; omega) f
theorem cv_at : ∀ {l : List Zc} {a b x : Int}, Rn l a b → ∀ p ∈ l, p.1 ≤ x → x < p.2.1 → ∀ f, cv x l f = p.2.2
  | q :: r, a, b, x, h, p, hp, h1, h2, f => by
    show cv x r (if q.1 ≤ x then q.2.2 else f) = p.2.2
    rcases List.mem_cons.mp hp with rfl | hp
    · rw [if_pos h1]
      exact cv_no h.2.2 h2 _
    · exact cv_at h.2.2 p hp h1 h2 _
theorem L_curve_at (l : List Zc) (x : Int) (l0 : l ≠ []) (hn : l.length ≤ 100) (hz : ∀ p ∈ l, p.1.natAbs ≤ 1000) (hx : x.natAbs ≤ 1000) : ∃ f, F__law_curve_at [.list ((l.map zP).map pD), nD (x : Rat)] = okM (.val (cD (cv x l f))) := by
  have szl : (sizeLine : Nat) = 16777216 := rfl
  obtain ⟨p0, r, e0⟩ : ∃ p r, l = p :: r := by cases l with | nil => exact absurd rfl l0 | cons p r => exact ⟨p, r, rfl⟩
  refine ⟨p0.2.2, ev_fn rfl ?_⟩
  show B__law_curve_at [.dat (.list ((l.map zP).map pD)), .dat (nD (x : Rat)), .no, .no, .no, .no] = _
  unfold B__law_curve_at
  refine ev_sset (x := .dat (cD p0.2.2)) (ev_f2 (ev_f2 rfl rfl (ix_lst (j := 0) rfl (by rw [e0]; rfl))) rfl (ix_tup (j := 2) rfl rfl)) rfl (by walk_at "ss") ?_
  obtain ⟨δ', e, acc, r3, r4, r5, rfl, ha⟩ := forN_inv (g := (tTupT (tsCons (tName 3) (tsCons (tName 4) (tsCons (tName 5) tsNil))) 3)) (b := (fIfS (fNot (fB (fCall (gF 2 F__law_less) (fCons (fVar 1) (fCons (fVar 3) fNil))))) (fSet 2 (fVar 5)) fNext)) (δ := [.dat (.list ((l.map zP).map pD)), .dat (nD (x : Rat)), .dat (cD p0.2.2), .no, .no, .no])
    (fun i δ => ∃ (acc : List Rat) (r3 r4 r5 : Sl), δ = [.dat (.list ((l.map zP).map pD)), .dat (nD (x : Rat)), .dat (cD acc), r3, r4, r5] ∧ acc = cv x (l.take i) p0.2.2) ((l.map zP).map pD) ⟨_, _, _, _, rfl, rfl⟩
    (by
      rintro i d δ hd ⟨acc, r3, r4, r5, rfl, ha⟩
      have hi : i < l.length := by
        by_cases c : i < l.length
        · exact c
        · rw [List.getElem?_eq_none (by simp; omega)] at hd; cases hd
      obtain ⟨p, hp⟩ : ∃ p, l[i]? = some p := ⟨_, List.getElem?_eq_getElem hi⟩
      rw [get_zP hp] at hd
      cases hd
      have tk : l.take (i + 1) = l.take i ++ [p] := by rw [List.take_succ, hp]; rfl
      have lt : F__law_less [nD (x : Rat), nD (p.1 : Rat)] = okM (.val (.bool (decide (x < p.1)))) := by
        rw [L_less _ _ (sz_int hx) (sz_int (hz p (List.mem_of_getElem? hp)))]
        congr 3
        exact decide_eq_decide.mpr Rat.intCast_lt_intCast
      have hc : (fNot (fB (fCall (gF 2 F__law_less) (fCons (fVar 1) (fCons (fVar 3) fNil))))) [.dat (.list ((l.map zP).map pD)), .dat (nD (x : Rat)), .dat (cD acc), .dat (nD (p.1 : Rat)), .dat (nD (p.2.1 : Rat)), .dat (cD p.2.2)] = okM (!decide (x < p.1)) := ev_not (ev_fB (ev_call (ev_cons rfl (ev_cons rfl rfl)) (ev_gF rfl rfl lt rfl)) rfl)
      refine ⟨[.dat (.list ((l.map zP).map pD)), .dat (nD (x : Rat)), .dat (cD acc), .dat (nD (p.1 : Rat)), .dat (nD (p.2.1 : Rat)), .dat (cD p.2.2)], [.dat (.list ((l.map zP).map pD)), .dat (nD (x : Rat)), .dat (cD (cv x (l.take (i + 1)) p0.2.2)), .dat (nD (p.1 : Rat)), .dat (nD (p.2.1 : Rat)), .dat (cD p.2.2)], rfl, .inl ?_, _, _, _, _, rfl, rfl⟩
      rw [tk, cv_snoc]
      by_cases c : p.1 ≤ x
      · rw [if_pos c]
        exact ev_iT (by rw [hc, decide_eq_false (by omega)]; rfl) (ev_set rfl rfl rfl)
      · rw [if_neg c, ← ha]
        exact ev_iF (by rw [hc, decide_eq_true (by omega)]; rfl) rfl)
  rw [List.length_map, List.length_map, List.take_length] at ha
  subst ha
  exact ev_seq (show fFrz 0 _ _ = _ from ev_for (ev_fI rfl rfl) e) (ev_ret rfl rfl)
/-! a loop that may end early -/
theorem forN_or {g : PyData → List Sl → Option (List Sl)} {b : List Sl → Option Fl} (o : Out) : ∀ (items : List PyData) (P : Nat → List Sl → Prop) (q : Nat → Bool) (δ : List Sl), P 0 δ →
    (∀ i d δ, items[i]? = some d → P i δ → ∃ δ1, g d δ = some δ1 ∧ ((q i = true ∧ ∃ δ2, b δ1 = some (.next δ2) ∧ P (i + 1) δ2) ∨ (q i = false ∧ b δ1 = some (.ret o)))) →
    ((∀ i, i < items.length → q i = true) ∧ ∃ δ', forN g b items δ = some (.next δ') ∧ P items.length δ') ∨ ((∃ i, i < items.length ∧ q i = false) ∧ forN g b items δ = some (.ret o))
  | [], P, q, δ, h0, _ => .inl ⟨fun i h => by simp at h, δ, rfl, h0⟩
  | d :: r, P, q, δ, h0, hs => by
    obtain ⟨δ1, e1, h1⟩ := hs 0 d δ rfl h0
    unfold forN
    rw [e1]
    dsimp only
    rcases h1 with ⟨q0, δ2, e2, p2⟩ | ⟨q0, e2⟩
    · rw [e2]
      dsimp only
      rcases forN_or o r (fun i δ => P (i + 1) δ) (fun i => q (i + 1)) δ2 p2 (fun i d' δ' h p => hs (i + 1) d' δ' h p) with ⟨a, δ', e, p⟩ | ⟨⟨i, hi, qi⟩, e⟩
      · exact .inl ⟨fun i hi => by cases i with | zero => exact q0 | succ i => exact a i (by simpa using hi), δ', e, p⟩
      · exact .inr ⟨⟨i + 1, by simpa using hi, qi⟩, e⟩
    · rw [e2]
      exact .inr ⟨⟨0, by simp, q0⟩, rfl⟩
/-! all joints -/
def jn2 (ks : List Int) (p : Zc) : List Int := putI (putI ks p.1) p.2.1
theorem jn2_mem : ∀ (l : List Zc) (ks : List Int) (x : Int), x ∈ l.foldl jn2 ks ↔ x ∈ ks ∨ ∃ p ∈ l, x = p.1 ∨ x = p.2.1
  | [], ks, x => by simp
  | p :: r, ks, x => by
    rw [List.foldl_cons, jn2_mem r]
    unfold jn2
    rw [putI_mem, putI_mem]
    constructor
    · rintro (((h | h) | h) | ⟨q, hq, h⟩)
      · exact .inl h
      · exact .inr ⟨p, .head _, .inl h⟩
      · exact .inr ⟨p, .head _, .inr h⟩
      · exact .inr ⟨q, .tail _ hq, h⟩
    · rintro (h | ⟨q, hq, h⟩)
      · exact .inl (.inl (.inl h))
      · rcases List.mem_cons.mp hq with rfl | hq
        · rcases h with h | h
          · exact .inl (.inl (.inr h))
          · exact .inl (.inr h)
        · exact .inr ⟨q, hq, h⟩
theorem jn2_nodup : ∀ (l : List Zc) (ks : List Int), ks.Nodup → (l.foldl jn2 ks).Nodup
  | [], _, h => h
  | p :: r, ks, h => jn2_nodup r _ (putI_nodup (putI_nodup h _) _)
theorem jn2_len : ∀ (l : List Zc) (ks : List Int), (l.foldl jn2 ks).length ≤ ks.length + 2 * l.length
  | [], ks => by simp
  | p :: r, ks => by
    rw [List.foldl_cons]
    have h1 := jn2_len r (jn2 ks p)
    have h2 := putI_len (putI ks p.1) p.2.1
    have h3 := putI_len ks p.1
    unfold jn2 at h1 ⊢
    rw [List.length_cons]
    omega
theorem nD_num (i : Int) : nD (i : Rat) = .tuple [.int i, .int 1] := by unfold nD; rw [Rat.num_intCast, Rat.den_intCast]; rfl
theorem dic_due (A B C D E F G : Sl) : ∀ (l : List Zc) (ks : List Int) (r7 r8 r9 : Sl), ks.length + 2 * l.length ≤ 50 → ∃ r7' r8' r9' : Sl, dicN (tTupT (tsCons (tName 7) (tsCons (tName 8) (tsCons (tName 9) tsNil))) 3) [(f2 gIx (fVar 7) (fC (.int 0))), (f2 gIx (fVar 8) (fC (.int 0)))] ((l.map zP).map pD) [A, B, C, D, E, F, G, r7, r8, r9, .no] ks = some ([A, B, C, D, E, F, G, r7', r8', r9', .no], l.foldl jn2 ks)
  | [], ks, r7, r8, r9, _ => ⟨r7, r8, r9, rfl⟩
  | p :: r, ks, r7, r8, r9, h => by
    rw [List.length_cons] at h
    have h3 := putI_len ks p.1
    have h4 := putI_len (putI ks p.1) p.2.1
    obtain ⟨a, b, c, e⟩ := dic_due A B C D E F G r (jn2 ks p) (.dat (nD (p.1 : Rat))) (.dat (nD (p.2.1 : Rat))) (.dat (cD p.2.2)) (by unfold jn2; omega)
    refine ⟨a, b, c, ?_⟩
    rw [List.map_cons, List.map_cons]
    unfold dicN
    rw [show (tTupT (tsCons (tName 7) (tsCons (tName 8) (tsCons (tName 9) tsNil))) 3) (pD (zP p)) [A, B, C, D, E, F, G, r7, r8, r9, .no] = some [A, B, C, D, E, F, G, .dat (nD (p.1 : Rat)), .dat (nD (p.2.1 : Rat)), .dat (cD p.2.2), .no] from rfl]
    dsimp only
    have eb : dicB [(f2 gIx (fVar 7) (fC (.int 0))), (f2 gIx (fVar 8) (fC (.int 0)))] [A, B, C, D, E, F, G, .dat (nD (p.1 : Rat)), .dat (nD (p.2.1 : Rat)), .dat (cD p.2.2), .no] ks = some (jn2 ks p) := by
      rw [nD_num, nD_num]
      unfold dicB
      rw [show (f2 gIx (fVar 7) (fC (.int 0))) [A, B, C, D, E, F, G, .dat (.tuple [.int p.1, .int 1]), .dat (.tuple [.int p.2.1, .int 1]), .dat (cD p.2.2), .no] = okM (.dat (.int p.1)) from ev_f2 rfl rfl ix_t0]
      unfold okM
      dsimp only [Rz.d?]
      rw [if_pos (by omega)]
      unfold dicB
      rw [show (f2 gIx (fVar 8) (fC (.int 0))) [A, B, C, D, E, F, G, .dat (.tuple [.int p.1, .int 1]), .dat (.tuple [.int p.2.1, .int 1]), .dat (cD p.2.2), .no] = okM (.dat (.int p.2.1)) from ev_f2 rfl rfl ix_t0]
      unfold okM
      dsimp only [Rz.d?]
      rw [if_pos (by omega)]
      rfl
    rw [eb]
    exact e

theorem Rn.lows : ∀ {l : List Zc} {a b : Int}, Rn l a b → ∀ p ∈ l, p.1 = a ∨ p.1 ∈ hgs l
  | q :: r, a, b, h, p, hp => by
    rcases List.mem_cons.mp hp with rfl | hp
    · exact .inl h.1
    · right
      unfold hgs
      rw [List.map_cons, List.mem_cons]
      rcases h.2.2.lows p hp with e | e
      · exact .inl e
      · exact .inr e
theorem Rw.joints {l m : List Zc} {a b : Int} (hl : Rw l a b) (hm : Rw m a b) : srtI ((l ++ m).foldl jn2 []) = a :: (MG l m a).map fun c => c.2.1 := by
  have I := hl.mg hm
  refine rise_eq (srtI_rise (jn2_nodup _ _ List.nodup_nil)) I.rise fun x => ?_
  rw [srtI_mem, jn2_mem, List.mem_cons, I.mem]
  have hh : ∀ {l : List Zc} {p : Zc}, p ∈ l → p.2.1 ∈ hgs l := fun h => List.mem_map.mpr ⟨_, h, rfl⟩
  constructor
  · rintro (h | ⟨p, hp, h⟩)
    · cases h
    · rcases List.mem_append.mp hp with hp | hp
      · rcases h with rfl | rfl
        · rcases hl.rn.lows p hp with e | e
          · exact .inl e
          · exact .inr (.inl e)
        · exact .inr (.inl (hh hp))
      · rcases h with rfl | rfl
        · rcases hm.rn.lows p hp with e | e
          · exact .inl e
          · exact .inr (.inr e)
        · exact .inr (.inr (hh hp))
  · rintro (h | h | h)
    · obtain ⟨p, r, e⟩ : ∃ p r, l = p :: r := by cases l with | nil => exact absurd rfl hl.ne | cons p r => exact ⟨p, r, rfl⟩
      have h1 := hl.rn
      rw [e] at h1
      exact .inr ⟨p, by rw [e]; exact List.mem_append_left _ (.head _), .inl (by rw [h, h1.1])⟩
    · obtain ⟨p, hp, rfl⟩ := List.mem_map.mp h
      exact .inr ⟨p, List.mem_append_left _ hp, .inr rfl⟩
    · obtain ⟨p, hp, rfl⟩ := List.mem_map.mp h
      exact .inr ⟨p, List.mem_append_right _ hp, .inr rfl⟩
theorem Rn.last : ∀ {l : List Zc} {a b : Int}, Rn l a b → l ≠ [] → ∃ z, l.getLast? = some z ∧ z.2.1 = b
  | [p], a, b, h, _ => ⟨p, rfl, h.2.2⟩
  | p :: q :: r, a, b, h, _ => by
    obtain ⟨z, e, hz⟩ := h.2.2.last (by simp)
    exact ⟨z, by rw [List.getLast?_cons_cons]; exact e, hz⟩
theorem Rw.lowz {l : List Zc} {a b : Int} (h : Rw l a b) (ha : a.natAbs ≤ 1000) : ∀ p ∈ l, p.1.natAbs ≤ 1000 := fun p hp => by
  rcases h.rn.lows p hp with e | e
  · rw [e]; exact ha
  · obtain ⟨q, hq, e⟩ := List.mem_map.mp e
    rw [← e]; exact h.z q hq
theorem L_dueE (w : Int) {ps qs : List Pc} {p q y z : Pc} (hp : ps.head? = some p) (hq : qs.head? = some q) (hy : ps.getLast? = some y) (hz : qs.getLast? = some z) (h : p.1 ≠ q.1 ∨ y.2.1 ≠ z.2.1) : F__law_due [.int w, .list (ps.map pD), .list (qs.map pD)] = okM (.val (.str "pieces")) := by
  refine ev_fn rfl ?_
  show B__law_due [.dat (.int w), .dat (.list (ps.map pD)), .dat (.list (qs.map pD)), .no, .no, .no, .no, .no, .no, .no, .no] = _
  unfold B__law_due
  have h0 : ∀ {l : List Pc} {p : Pc}, l.head? = some p → gIx (.dat (.list (l.map pD))) (.dat (.int 0)) = okM (.dat (pD p)) := fun {l p} h => ix_lst (j := 0) rfl (by cases l with | nil => cases h | cons a r => cases h; rfl)
  have h1 : ∀ {l : List Pc} {p : Pc}, l.getLast? = some p → gIx (.dat (.list (l.map pD))) (.dat (.int (-1))) = okM (.dat (pD p)) := fun {l p} h => by
    unfold gIx seqOf Rz.d?; dsimp only
    rw [show L2.atI (l.map pD) (-1) = some (pD p) by
      rcases snoc_cases l with rfl | ⟨t, a, rfl⟩
      · cases h
      · rw [List.getLast?_concat] at h; cases h; rw [List.map_append]; exact atI_last _ _]; rfl
  have ne : ∀ x y : Rat, gEq true (.dat (nD x)) (.dat (nD y)) = okM (.dat (.bool (!decide (x = y)))) := fun x y => gNeD rfl rfl (ok_num _) (ok_num _) (by rw [eqv_num, Bool.not_not])
  refine ev_sifT ?_ (ev_sret rfl rfl)
  refine (ev_or (a := !decide (y.2.1 = z.2.1)) (b := !decide (p.1 = q.1)) ?_ (fun _ => ?_)).trans ?_
  · exact ev_fB (ev_f2 (ev_f2 (ev_f2 rfl (ev_fU rfl rfl) (h1 hy)) rfl ix_t1) (ev_f2 (ev_f2 rfl (ev_fU rfl rfl) (h1 hz)) rfl ix_t1) (ne _ _)) rfl
  · exact ev_fB (ev_f2 (ev_f2 (ev_f2 rfl rfl (h0 hp)) rfl ix_t0) (ev_f2 (ev_f2 rfl rfl (h0 hq)) rfl ix_t0) (ne _ _)) rfl
  congr 1
  rcases h with h | h
  · rw [decide_eq_false h, Bool.not_false, Bool.or_true]
  · rw [decide_eq_false h]; rfl
theorem zP_head {l : List Zc} {a b : Int} (h : Rw l a b) : ∃ p, (l.map zP).head? = some p ∧ p.1 = (a : Rat) := by
  obtain ⟨p, r, e⟩ : ∃ p r, l = p :: r := by cases l with | nil => exact absurd rfl h.ne | cons p r => exact ⟨p, r, rfl⟩
  have h1 := h.rn
  rw [e] at h1
  exact ⟨zP p, by rw [e]; rfl, by show ((p.1 : Int) : Rat) = _; rw [h1.1]⟩
theorem zP_last {l : List Zc} {a b : Int} (h : Rw l a b) : ∃ p, (l.map zP).getLast? = some p ∧ p.2.1 = (b : Rat) := by
  obtain ⟨z, e, hz⟩ := h.rn.last h.ne
  exact ⟨zP z, by rw [List.getLast?_map, e]; rfl, by show ((z.2.1 : Int) : Rat) = _; rw [hz]⟩
theorem L_due (w : Nat) (hw : w = 0 ∨ w = 1) {l m : List Zc} {a b : Int} (hl : Rw l a b) (hm : Rw m a b) (ha : a.natAbs ≤ 1000) :
    (8 < (MG l m a).length ∧ F__law_due [.int (w : Int), .list ((l.map zP).map pD), .list ((m.map zP).map pD)] = okM (.val (.str "pieces"))) ∨
    ((MG l m a).length ≤ 8 ∧ (∃ c ∈ MG l m a, 7 < (smT w c.2.2.1 c.2.2.2).length) ∧ F__law_due [.int (w : Int), .list ((l.map zP).map pD), .list ((m.map zP).map pD)] = okM (.val (.str "great"))) ∨
    ((MG l m a).length ≤ 8 ∧ (∀ c ∈ MG l m a, (smT w c.2.2.1 c.2.2.2).length ≤ 7) ∧ F__law_due [.int (w : Int), .list ((l.map zP).map pD), .list ((m.map zP).map pD)] = okM (.val (.tuple (((MG l m a).map (cP w)).map pD)))) := by
  have szl : (sizeLine : Nat) = 16777216 := rfl
  have I := hl.mg hm
  have CZ := hl.cz2 hm
  have hlen := mg_len (l.length + m.length) l m a
  have l8 := hl.len
  have m8 := hm.len
  have hJ := hl.joints hm
  obtain ⟨M, hM⟩ : ∃ M, M = MG l m a := ⟨_, rfl⟩
  have hlen' : M.length ≤ l.length + m.length := by rw [hM]; exact hlen
  rw [← hM] at I CZ hJ ⊢
  obtain ⟨J, hJd⟩ : ∃ J : List Int, J = a :: M.map fun c => c.2.1 := ⟨_, rfl⟩
  rw [← hJd] at hJ
  have Jl : J.length = M.length + 1 := by rw [hJd]; simp
  have kslen := jn2_len (l ++ m) []
  rw [List.length_append, List.length_nil] at kslen
  obtain ⟨p1, hp1, ep1⟩ := zP_head hl
  obtain ⟨q1, hq1, eq1⟩ := zP_head hm
  obtain ⟨y1, hy1, ey1⟩ := zP_last hl
  obtain ⟨z1, hz1, ez1⟩ := zP_last hm
  have h0 : ∀ {l : List Pc} {p : Pc}, l.head? = some p → gIx (.dat (.list (l.map pD))) (.dat (.int 0)) = okM (.dat (pD p)) := fun {l p} h => ix_lst (j := 0) rfl (by cases l with | nil => cases h | cons a r => cases h; rfl)
  have h1 : ∀ {l : List Pc} {p : Pc}, l.getLast? = some p → gIx (.dat (.list (l.map pD))) (.dat (.int (-1))) = okM (.dat (pD p)) := fun {l p} h => by
    unfold gIx seqOf Rz.d?; dsimp only
    rw [show L2.atI (l.map pD) (-1) = some (pD p) by
      rcases snoc_cases l with rfl | ⟨t, a, rfl⟩
      · cases h
      · rw [List.getLast?_concat] at h; cases h; rw [List.map_append]; exact atI_last _ _]; rfl
  have ne : ∀ x y : Rat, x = y → gEq true (.dat (nD x)) (.dat (nD y)) = okM (.dat (.bool false)) := fun x y h => by
    subst h
    exact gNeD (b := false) rfl rfl (ok_num _) (ok_num _) (by rw [eqv_num, decide_eq_true rfl]; rfl)
  obtain ⟨r7, r8, r9, hdic⟩ := dic_due (.dat (.int (w : Int))) (.dat (.list ((l.map zP).map pD))) (.dat (.list ((m.map zP).map pD))) .no .no .no .no (l ++ m) [] .no .no .no (by rw [List.length_nil, List.length_append]; omega)
  have hD : (fDic 3 4 [] (fI itemsL (f2 gCatS (fVar 1) (fVar 2))) (tTupT (tsCons (tName 7) (tsCons (tName 8) (tsCons (tName 9) tsNil))) 3) ((f2 gIx (fVar 7) (fC (.int 0))) :: ((f2 gIx (fVar 8) (fC (.int 0))) :: []))) [.dat (.int (w : Int)), .dat (.list ((l.map zP).map pD)), .dat (.list ((m.map zP).map pD)), .no, .no, .no, .no, .no, .no, .no, .no] = some (.next [.dat (.int (w : Int)), .dat (.list ((l.map zP).map pD)), .dat (.list ((m.map zP).map pD)), .no, .own (J.map PyData.int), .no, .no, r7, r8, r9, .no]) := by
    unfold fDic
    rw [if_pos (by show 3 < 11; decide)]
    have hit : (fI itemsL (f2 gCatS (fVar 1) (fVar 2))) ([.dat (.int (w : Int)), .dat (.list ((l.map zP).map pD)), .dat (.list ((m.map zP).map pD)), .no, .no, .no, .no, .no, .no, .no, .no].set 3 .no) = okM (((l ++ m).map zP).map pD) := by
      refine ev_fI (x := .new (((l ++ m).map zP).map pD)) (ev_f2 rfl rfl ?_) rfl
      unfold gCatS Rz.d?
      dsimp only
      rw [if_pos ⟨rfl, rfl, by simp only [List.length_map]; omega⟩, List.map_append, List.map_append]
    rw [hit]
    unfold okM
    dsimp only
    rw [show ([.dat (.int (w : Int)), .dat (.list ((l.map zP).map pD)), .dat (.list ((m.map zP).map pD)), .no, .no, .no, .no, .no, .no, .no, .no] : List Sl).set 3 .no = [.dat (.int (w : Int)), .dat (.list ((l.map zP).map pD)), .dat (.list ((m.map zP).map pD)), .no, .no, .no, .no, .no, .no, .no, .no] from rfl, hdic]
    dsimp only
    rw [if_pos (by omega), hJ]
    rfl
  have lenJ : g1 lenOf [Rz.var (J.map PyData.int)] = okM (.dat (.int (J.length : Int))) := by
    show okM (Rz.dat (PyData.int ((J.map PyData.int).length : Int))) = _
    rw [List.length_map]
  -- what goes ahead
  have hd : ∀ o : Out, (fSeq (fIfS (fB (f2 (gI gGt) (fCall (g1 lenOf) (fCons (fVar 4) fNil)) (fC (.int 9)))) (fRet (fC (.str "pieces"))) fNext)
    (fSeq (fSet 5 (fCall D3.gLst fNil))
    (fSeq (fFor (fR rng1 (fCons (f2 (gI D3.gSub) (fCall (g1 lenOf) (fCons (fVar 4) fNil)) (fC (.int 1))) fNil)) (tName 6) (fSeq (fSet 7 (fCall D3.gTup (fCons (f2 gIx (fVar 4) (fVar 6)) (fCons (fC (.int 1)) fNil))))
    (fSeq (fSet 10 (fCall D3.gLst (fCons (fCall (gF 2 F__law_curve_at) (fCons (fVar 1) (fCons (fVar 7) fNil))) (fCons (fCall (gF 2 F__law_curve_at) (fCons (fVar 2) (fCons (fVar 7) fNil))) fNil))))
    (fSeq (fSet 9 (fCalI 2 F__law_sum F__law_product (fVar 0) (fCons (f2 gIx (fVar 10) (fC (.int 0))) (fCons (f2 gIx (fVar 10) (fC (.int 1))) fNil))))
    (fSeq (fIfS (fB (f2 (gI gGt) (fCall (g1 lenOf) (fCons (fVar 9) fNil)) (fC (.int 7)))) (fRet (fC (.str "great"))) fNext)
    (fApp 5 (fCall D3.gTup (fCons (fVar 7) (fCons (fCall D3.gTup (fCons (f2 gIx (fVar 4) (f2 (gI gAdd) (fVar 6) (fC (.int 1)))) (fCons (fC (.int 1)) fNil))) (fCons (fVar 9) fNil))))))))))
    (fRet (fCall (g1 tupleOf) (fCons (fVar 5) fNil)))))) [.dat (.int (w : Int)), .dat (.list ((l.map zP).map pD)), .dat (.list ((m.map zP).map pD)), .no, .own (J.map PyData.int), .no, .no, r7, r8, r9, .no] = some (.ret o) → F__law_due [.int (w : Int), .list ((l.map zP).map pD), .list ((m.map zP).map pD)] = okM o := fun o H => by
    refine ev_fn rfl ?_
    show B__law_due [.dat (.int (w : Int)), .dat (.list ((l.map zP).map pD)), .dat (.list ((m.map zP).map pD)), .no, .no, .no, .no, .no, .no, .no, .no] = _
    unfold B__law_due
    refine ev_sifF (ev_orF (ev_fB (ev_f2 (ev_f2 (ev_f2 rfl (ev_fU rfl rfl) (h1 hy1)) rfl ix_t1) (ev_f2 (ev_f2 rfl (ev_fU rfl rfl) (h1 hz1)) rfl ix_t1) (ne _ _ (by rw [ey1, ez1]))) rfl) (ev_fB (ev_f2 (ev_f2 (ev_f2 rfl rfl (h0 hp1)) rfl ix_t0) (ev_f2 (ev_f2 rfl rfl (h0 hq1)) rfl ix_t0) (ne _ _ (by rw [ep1, eq1]))) rfl)) (ev_snext ?_)
    exact ev_seq hD H
  have hcg : fB (f2 (gI gGt) (fCall (g1 lenOf) (fCons (fVar 4) fNil)) (fC (.int 9))) [.dat (.int (w : Int)), .dat (.list ((l.map zP).map pD)), .dat (.list ((m.map zP).map pD)), .no, .own (J.map PyData.int), .no, .no, r7, r8, r9, .no] = okM (decide ((J.length : Int) > 9)) := ev_fB (ev_f2 (ev_call rfl lenJ) rfl rfl) rfl
  by_cases c9 : 8 < M.length
  · exact .inl ⟨c9, hd _ (ev_sifT (by rw [hcg, decide_eq_true (by omega)]) (ev_sret rfl rfl))⟩
  right
  have loop := forN_or (g := tName 6) (b := (fSeq (fSet 7 (fCall D3.gTup (fCons (f2 gIx (fVar 4) (fVar 6)) (fCons (fC (.int 1)) fNil))))
    (fSeq (fSet 10 (fCall D3.gLst (fCons (fCall (gF 2 F__law_curve_at) (fCons (fVar 1) (fCons (fVar 7) fNil))) (fCons (fCall (gF 2 F__law_curve_at) (fCons (fVar 2) (fCons (fVar 7) fNil))) fNil))))
    (fSeq (fSet 9 (fCalI 2 F__law_sum F__law_product (fVar 0) (fCons (f2 gIx (fVar 10) (fC (.int 0))) (fCons (f2 gIx (fVar 10) (fC (.int 1))) fNil))))
    (fSeq (fIfS (fB (f2 (gI gGt) (fCall (g1 lenOf) (fCons (fVar 9) fNil)) (fC (.int 7)))) (fRet (fC (.str "great"))) fNext)
    (fApp 5 (fCall D3.gTup (fCons (fVar 7) (fCons (fCall D3.gTup (fCons (f2 gIx (fVar 4) (f2 (gI gAdd) (fVar 6) (fC (.int 1)))) (fCons (fC (.int 1)) fNil))) (fCons (fVar 9) fNil)))))))))) (.val (.str "great")) (rangeL 0 M.length)
    (fun i δ => ∃ r6 r7 r8 r9 r10 : Sl, δ = [.dat (.int (w : Int)), .dat (.list ((l.map zP).map pD)), .dat (.list ((m.map zP).map pD)), .no, .own (J.map PyData.int), .own (((M.take i).map (cP w)).map pD), r6, r7, r8, r9, r10]) (fun i => decide ((smT w (M.getD i (0, 0, [], [])).2.2.1 (M.getD i (0, 0, [], [])).2.2.2).length ≤ 7)) [.dat (.int (w : Int)), .dat (.list ((l.map zP).map pD)), .dat (.list ((m.map zP).map pD)), .no, .own (J.map PyData.int), .own [], .no, r7, r8, r9, .no] ⟨_, _, _, _, _, rfl⟩
    (by
      rintro i d δ hd' ⟨r6, r7, r8, r9, r10, rfl⟩
      obtain ⟨hi, rfl⟩ := range_at hd'
      obtain ⟨c, hc⟩ : ∃ c, M[i]? = some c := ⟨_, List.getElem?_eq_getElem hi⟩
      have cm := List.mem_of_getElem? hc
      have gd : M.getD i (0, 0, [], []) = c := by rw [List.getD_eq_getElem?_getD, hc]; rfl
      rw [gd]
      have ex : (0 : Int) + (i : Int) = (i : Int) := by omega
      rw [ex]
      have j1 : (J.map PyData.int)[i]? = some (.int c.1) := by rw [List.getElem?_map, hJd, I.low i c hc]; rfl
      have j2 : (J.map PyData.int)[i + 1]? = some (.int c.2.1) := by rw [List.getElem?_map, hJd, List.getElem?_cons_succ, List.getElem?_map, hc]; rfl
      obtain ⟨⟨p, pm, pa, pb, pc⟩, ⟨q, qm, qa, qb, qc⟩⟩ := I.cur c cm
      obtain ⟨c1, c2⟩ := CZ c cm
      have zc : c.1.natAbs ≤ 1000 := by
        have m1 : c.1 ∈ J := by
          have := I.low i c hc
          rw [← hJd] at this
          exact List.mem_of_getElem? this
        rw [hJd] at m1
        rcases List.mem_cons.mp m1 with e | e
        · rw [e]; exact ha
        · rcases (I.mem _).mp e with e | e
          · obtain ⟨z, hz, e⟩ := List.mem_map.mp e
            rw [← e]; exact hl.z z hz
          · obtain ⟨z, hz, e⟩ := List.mem_map.mp e
            rw [← e]; exact hm.z z hz
      obtain ⟨f, hf⟩ := L_curve_at l c.1 hl.ne (by omega) (hl.lowz ha) zc
      obtain ⟨g, hg⟩ := L_curve_at m c.1 hm.ne (by omega) (hm.lowz ha) zc
      rw [cv_at hl.rn p pm pa pb f, ← pc] at hf
      rw [cv_at hm.rn q qm qa qb g, ← qc] at hg
      refine ⟨_, rfl, ?_⟩
      have nn : ∀ s3, (fCall D3.gTup (fCons (f2 gIx (fVar 4) (fVar 6)) (fCons (fC (.int 1)) fNil))) [.dat (.int (w : Int)), .dat (.list ((l.map zP).map pD)), .dat (.list ((m.map zP).map pD)), .no, .own (J.map PyData.int), s3, .dat (.int (i : Int)), r7, r8, r9, r10] = okM (.dat (nD (c.1 : Rat))) := fun s3 => by
        rw [nD_num]
        exact ev_call (ev_cons (ev_f2 rfl rfl (ix_var (j := i) rfl j1)) (ev_cons rfl rfl)) rfl
      have n2 : ∀ s3 lo cu cs, (fCall D3.gTup (fCons (f2 gIx (fVar 4) (f2 (gI gAdd) (fVar 6) (fC (.int 1)))) (fCons (fC (.int 1)) fNil))) [.dat (.int (w : Int)), .dat (.list ((l.map zP).map pD)), .dat (.list ((m.map zP).map pD)), .no, .own (J.map PyData.int), s3, .dat (.int (i : Int)), lo, r8, cu, cs] = okM (.dat (nD (c.2.1 : Rat))) := fun s3 lo cu cs => by
        rw [nD_num]
        exact ev_call (ev_cons (ev_f2 rfl (ev_f2 rfl rfl rfl) (ix_var (j := i + 1) (by omega) j2)) (ev_cons rfl rfl)) rfl
      have hcal : (fCalI 2 F__law_sum F__law_product (fVar 0) (fCons (f2 gIx (fVar 10) (fC (.int 0))) (fCons (f2 gIx (fVar 10) (fC (.int 1))) fNil))) [.dat (.int (w : Int)), .dat (.list ((l.map zP).map pD)), .dat (.list ((m.map zP).map pD)), .no, .own (J.map PyData.int), .own (((M.take i).map (cP w)).map pD), .dat (.int (i : Int)), .dat (nD (c.1 : Rat)), r8, r9, .own [cD c.2.2.1, cD c.2.2.2]] = okM (.dat (cD (smT w c.2.2.1 c.2.2.2))) := by
        unfold fCalI
        rw [show fVar 0 [.dat (.int (w : Int)), .dat (.list ((l.map zP).map pD)), .dat (.list ((m.map zP).map pD)), .no, .own (J.map PyData.int), .own (((M.take i).map (cP w)).map pD), .dat (.int (i : Int)), .dat (nD (c.1 : Rat)), r8, r9, .own [cD c.2.2.1, cD c.2.2.2]] = okM (.dat (.int (w : Int))) from rfl]
        unfold okM
        dsimp only [Rz.d?]
        rcases hw with rfl | rfl
        · rw [if_pos (show ((0 : Nat) : Int) = 0 from rfl)]
          exact ev_call (ev_cons (ev_f2 rfl rfl (ix_var (j := 0) rfl rfl)) (ev_cons (ev_f2 rfl rfl (ix_var (j := 1) rfl rfl)) rfl)) (ev_gF rfl rfl (L_add _ _ c1 c2) (outZ_cur _))
        · rw [if_neg (show ¬ ((1 : Nat) : Int) = 0 by decide), if_pos (show ((1 : Nat) : Int) = 1 from rfl)]
          exact ev_call (ev_cons (ev_f2 rfl rfl (ix_var (j := 0) rfl rfl)) (ev_cons (ev_f2 rfl rfl (ix_var (j := 1) rfl rfl)) rfl)) (ev_gF rfl rfl (L_mul _ _ c1 c2) (outZ_cur _))
      have go : ∀ r : Option Fl, (fSeq (fIfS (fB (f2 (gI gGt) (fCall (g1 lenOf) (fCons (fVar 9) fNil)) (fC (.int 7)))) (fRet (fC (.str "great"))) fNext) (fApp 5 (fCall D3.gTup (fCons (fVar 7) (fCons (fCall D3.gTup (fCons (f2 gIx (fVar 4) (f2 (gI gAdd) (fVar 6) (fC (.int 1)))) (fCons (fC (.int 1)) fNil))) (fCons (fVar 9) fNil)))))) [.dat (.int (w : Int)), .dat (.list ((l.map zP).map pD)), .dat (.list ((m.map zP).map pD)), .no, .own (J.map PyData.int), .own (((M.take i).map (cP w)).map pD), .dat (.int (i : Int)), .dat (nD (c.1 : Rat)), r8, .dat (cD (smT w c.2.2.1 c.2.2.2)), .own [cD c.2.2.1, cD c.2.2.2]] = r → (fSeq (fSet 7 (fCall D3.gTup (fCons (f2 gIx (fVar 4) (fVar 6)) (fCons (fC (.int 1)) fNil))))
    (fSeq (fSet 10 (fCall D3.gLst (fCons (fCall (gF 2 F__law_curve_at) (fCons (fVar 1) (fCons (fVar 7) fNil))) (fCons (fCall (gF 2 F__law_curve_at) (fCons (fVar 2) (fCons (fVar 7) fNil))) fNil))))
    (fSeq (fSet 9 (fCalI 2 F__law_sum F__law_product (fVar 0) (fCons (f2 gIx (fVar 10) (fC (.int 0))) (fCons (f2 gIx (fVar 10) (fC (.int 1))) fNil))))
    (fSeq (fIfS (fB (f2 (gI gGt) (fCall (g1 lenOf) (fCons (fVar 9) fNil)) (fC (.int 7)))) (fRet (fC (.str "great"))) fNext)
    (fApp 5 (fCall D3.gTup (fCons (fVar 7) (fCons (fCall D3.gTup (fCons (f2 gIx (fVar 4) (f2 (gI gAdd) (fVar 6) (fC (.int 1)))) (fCons (fC (.int 1)) fNil))) (fCons (fVar 9) fNil))))))))) [.dat (.int (w : Int)), .dat (.list ((l.map zP).map pD)), .dat (.list ((m.map zP).map pD)), .no, .own (J.map PyData.int), .own (((M.take i).map (cP w)).map pD), .dat (.int (i : Int)), r7, r8, r9, r10] = r := fun r hr => by
        refine ev_sset (nn _) rfl (by walk_at "ss") ?_
        refine ev_sset (x := .new [cD c.2.2.1, cD c.2.2.2]) (ev_call (ev_cons (ev_call (ev_cons rfl (ev_cons rfl rfl)) (ev_gF rfl rfl hf (outZ_cur _))) (ev_cons (ev_call (ev_cons rfl (ev_cons rfl rfl)) (ev_gF rfl rfl hg (outZ_cur _))) rfl)) rfl) rfl (by walk_at "ss") ?_
        exact ev_sset hcal rfl (by walk_at "ss") hr
      by_cases c7 : (smT w c.2.2.1 c.2.2.2).length ≤ 7
      · refine .inl ⟨decide_eq_true c7, [.dat (.int (w : Int)), .dat (.list ((l.map zP).map pD)), .dat (.list ((m.map zP).map pD)), .no, .own (J.map PyData.int), .own (((M.take (i + 1)).map (cP w)).map pD), .dat (.int (i : Int)), .dat (nD (c.1 : Rat)), r8, .dat (cD (smT w c.2.2.1 c.2.2.2)), .own [cD c.2.2.1, cD c.2.2.2]], go _ ?_, _, _, _, _, _, rfl⟩
        refine ev_sifF (ev_fB (b := decide (((smT w c.2.2.1 c.2.2.2).length : Int) > 7)) (ev_f2 (ev_call rfl (len_cD _)) rfl rfl) rfl |>.trans (by rw [decide_eq_false (by omega)])) (ev_snext ?_)
        refine ev_app (d := pD (cP w c)) rfl (ev_call (ev_cons rfl (ev_cons (n2 _ _ _ _) (ev_cons rfl rfl))) rfl) rfl (by simp only [List.length_map, List.length_take]; omega) ?_
        rw [List.take_succ, hc, List.map_append, List.map_append]; rfl
      · exact .inr ⟨decide_eq_false c7, go _ (ev_sifT (ev_fB (b := decide (((smT w c.2.2.1 c.2.2.2).length : Int) > 7)) (ev_f2 (ev_call rfl (len_cD _)) rfl rfl) rfl |>.trans (by rw [decide_eq_true (by omega)])) (ev_sret rfl rfl))⟩)
  rw [range_len] at loop
  have run : ∀ o : Out, (forN (tName 6) (fSeq (fSet 7 (fCall D3.gTup (fCons (f2 gIx (fVar 4) (fVar 6)) (fCons (fC (.int 1)) fNil))))
    (fSeq (fSet 10 (fCall D3.gLst (fCons (fCall (gF 2 F__law_curve_at) (fCons (fVar 1) (fCons (fVar 7) fNil))) (fCons (fCall (gF 2 F__law_curve_at) (fCons (fVar 2) (fCons (fVar 7) fNil))) fNil))))
    (fSeq (fSet 9 (fCalI 2 F__law_sum F__law_product (fVar 0) (fCons (f2 gIx (fVar 10) (fC (.int 0))) (fCons (f2 gIx (fVar 10) (fC (.int 1))) fNil))))
    (fSeq (fIfS (fB (f2 (gI gGt) (fCall (g1 lenOf) (fCons (fVar 9) fNil)) (fC (.int 7)))) (fRet (fC (.str "great"))) fNext)
    (fApp 5 (fCall D3.gTup (fCons (fVar 7) (fCons (fCall D3.gTup (fCons (f2 gIx (fVar 4) (f2 (gI gAdd) (fVar 6) (fC (.int 1)))) (fCons (fC (.int 1)) fNil))) (fCons (fVar 9) fNil))))))))) (rangeL 0 M.length) [.dat (.int (w : Int)), .dat (.list ((l.map zP).map pD)), .dat (.list ((m.map zP).map pD)), .no, .own (J.map PyData.int), .own [], .no, r7, r8, r9, .no] = some (.ret o) ∨ ∃ u6 u7 u8 u9 u10 : Sl, o = .val (.tuple ((M.map (cP w)).map pD)) ∧ forN (tName 6) (fSeq (fSet 7 (fCall D3.gTup (fCons (f2 gIx (fVar 4) (fVar 6)) (fCons (fC (.int 1)) fNil))))
    (fSeq (fSet 10 (fCall D3.gLst (fCons (fCall (gF 2 F__law_curve_at) (fCons (fVar 1) (fCons (fVar 7) fNil))) (fCons (fCall (gF 2 F__law_curve_at) (fCons (fVar 2) (fCons (fVar 7) fNil))) fNil))))
    (fSeq (fSet 9 (fCalI 2 F__law_sum F__law_product (fVar 0) (fCons (f2 gIx (fVar 10) (fC (.int 0))) (fCons (f2 gIx (fVar 10) (fC (.int 1))) fNil))))
    (fSeq (fIfS (fB (f2 (gI gGt) (fCall (g1 lenOf) (fCons (fVar 9) fNil)) (fC (.int 7)))) (fRet (fC (.str "great"))) fNext)
    (fApp 5 (fCall D3.gTup (fCons (fVar 7) (fCons (fCall D3.gTup (fCons (f2 gIx (fVar 4) (f2 (gI gAdd) (fVar 6) (fC (.int 1)))) (fCons (fC (.int 1)) fNil))) (fCons (fVar 9) fNil))))))))) (rangeL 0 M.length) [.dat (.int (w : Int)), .dat (.list ((l.map zP).map pD)), .dat (.list ((m.map zP).map pD)), .no, .own (J.map PyData.int), .own [], .no, r7, r8, r9, .no] = some (.next [.dat (.int (w : Int)), .dat (.list ((l.map zP).map pD)), .dat (.list ((m.map zP).map pD)), .no, .own (J.map PyData.int), .own ((M.map (cP w)).map pD), u6, u7, u8, u9, u10])) → F__law_due [.int (w : Int), .list ((l.map zP).map pD), .list ((m.map zP).map pD)] = okM o := fun o H => by
    refine hd o (ev_sifF (by rw [hcg, decide_eq_false (by omega)]) (ev_snext ?_))
    refine ev_sset (x := .new []) (ev_call rfl rfl) rfl (by walk_at "ss") ?_
    have hr := ev_rng1 (δ := [.dat (.int (w : Int)), .dat (.list ((l.map zP).map pD)), .dat (.list ((m.map zP).map pD)), .no, .own (J.map PyData.int), .own [], .no, r7, r8, r9, .no]) (fa := (fCons (f2 (gI D3.gSub) (fCall (g1 lenOf) (fCons (fVar 4) fNil)) (fC (.int 1))) fNil)) (m := M.length) (j := (J.length : Int) - 1) (ev_cons (ev_f2 (ev_call rfl lenJ) rfl rfl) rfl) (by omega) (by omega) (by omega)
    rcases H with H | ⟨u6, u7, u8, u9, u10, rfl, H⟩
    · exact ev_seqR (ev_for hr H)
    · exact ev_seq (ev_for hr H) (ev_ret (x := .dat (.tuple ((M.map (cP w)).map pD))) (ev_call rfl rfl) rfl)
  rcases loop with ⟨hq, δ', e, r6, r7', r8', r9', r10, rfl⟩ | ⟨⟨i, hi, qi⟩, e⟩
  · refine .inr ⟨by omega, fun c hc => ?_, run _ (.inr ⟨r6, r7', r8', r9', r10, rfl, by rw [List.take_length] at e; exact e⟩)⟩
    obtain ⟨i, hi⟩ := List.getElem?_of_mem hc
    have := of_decide_eq_true (hq i (List.getElem?_eq_some_iff.mp hi).1)
    rwa [show M.getD i (0, 0, [], []) = c by rw [List.getD_eq_getElem?_getD, hi]; rfl] at this
  · refine .inl ⟨by omega, ⟨M.getD i (0, 0, [], []), ?_, by have := of_decide_eq_false qi; omega⟩, run _ (.inl e)⟩
    rw [List.getD_eq_getElem?_getD, List.getElem?_eq_getElem hi]
    exact List.getElem_mem hi

structure Ks (ks : List Int) : Prop where
  nd : ks.Nodup
  rg : ∀ x ∈ ks, 0 ≤ x ∧ x ≤ 12
  z : (0 : Int) ∈ ks
  t : (12 : Int) ∈ ks
theorem Ks.put {ks : List Int} (h : Ks ks) (k : Int) (hk : 0 ≤ k ∧ k ≤ 12) : Ks (putI ks k) :=
  ⟨putI_nodup h.nd k, fun x hx => by rcases putI_mem.mp hx with hx | rfl; exact h.rg x hx; exact hk, putI_mem.mpr (.inl h.z), putI_mem.mpr (.inl h.t)⟩
theorem dic_row (ns : List Int) (at_ most size : Int) (h0 : 0 ≤ at_) (h1 : at_ ≤ 1000) : ∀ (items : List PyData) (ks : List Int) (r5 : Sl), (∀ d ∈ items, ∃ i : Nat, i < 100 ∧ d = .int (0 + (i : Int))) → Ks ks → ks.length + items.length ≤ 50 → ∃ (r5' : Sl) (ks' : List Int), dicN (tName 5) [(f2 (gI gAdd) (fC (.int 1)) (f2 (gI gMod) (fCall (gF 2 F__law_cell_at) (fCons (fVar 0) (fCons (f2 (gI gAdd) (f2 (gI gAdd) (fVar 1) (fC (.int 1))) (fVar 5)) fNil))) (fC (.int 11))))] items [.dat (scr ns), .dat (.int at_), .dat (.int most), .dat (.int size), .no, r5, .no, .no, .no, .no, .no] ks = some ([.dat (scr ns), .dat (.int at_), .dat (.int most), .dat (.int size), .no, r5', .no, .no, .no, .no, .no], ks') ∧ Ks ks' ∧ ks'.length ≤ ks.length + items.length
  | [], ks, r5, _, hk, _ => ⟨r5, ks, rfl, hk, Nat.le_refl _⟩
  | d :: r, ks, r5, hd, hk, hl => by
    rw [List.length_cons] at hl
    obtain ⟨i, hi, rfl⟩ := hd d (.head _)
    obtain ⟨c, hc⟩ := L_cell ns (at_ + 1 + (0 + (i : Int))) (by omega) (by omega)
    have e1 := Int.emod_nonneg c (b := 11) (by decide)
    have e2 := Int.emod_lt_of_pos c (b := 11) (by decide)
    have h3 := putI_len ks (1 + c % 11)
    obtain ⟨r5', ks', e, k', l'⟩ := dic_row ns at_ most size h0 h1 r (putI ks (1 + c % 11)) (.dat (.int (0 + (i : Int)))) (fun d hd' => hd d (.tail _ hd')) (hk.put _ ⟨by omega, by omega⟩) (by omega)
    refine ⟨r5', ks', ?_, k', by rw [List.length_cons]; omega⟩
    unfold dicN
    rw [show tName 5 (.int (0 + (i : Int))) [.dat (scr ns), .dat (.int at_), .dat (.int most), .dat (.int size), .no, r5, .no, .no, .no, .no, .no] = some [.dat (scr ns), .dat (.int at_), .dat (.int most), .dat (.int size), .no, .dat (.int (0 + (i : Int))), .no, .no, .no, .no, .no] from rfl]
    dsimp only
    have eb : dicB [(f2 (gI gAdd) (fC (.int 1)) (f2 (gI gMod) (fCall (gF 2 F__law_cell_at) (fCons (fVar 0) (fCons (f2 (gI gAdd) (f2 (gI gAdd) (fVar 1) (fC (.int 1))) (fVar 5)) fNil))) (fC (.int 11))))] [.dat (scr ns), .dat (.int at_), .dat (.int most), .dat (.int size), .no, .dat (.int (0 + (i : Int))), .no, .no, .no, .no, .no] ks = some (putI ks (1 + c % 11)) := by
      unfold dicB
      rw [show (f2 (gI gAdd) (fC (.int 1)) (f2 (gI gMod) (fCall (gF 2 F__law_cell_at) (fCons (fVar 0) (fCons (f2 (gI gAdd) (f2 (gI gAdd) (fVar 1) (fC (.int 1))) (fVar 5)) fNil))) (fC (.int 11)))) [.dat (scr ns), .dat (.int at_), .dat (.int most), .dat (.int size), .no, .dat (.int (0 + (i : Int))), .no, .no, .no, .no, .no] = okM (.dat (.int (1 + c % 11))) from ev_f2 rfl (ev_f2 (ev_call (ev_cons rfl (ev_cons (ev_f2 (ev_f2 rfl rfl rfl) rfl rfl) rfl)) (ev_gF rfl rfl hc rfl)) rfl (gModP (by decide))) rfl]
      unfold okM
      dsimp only [Rz.d?]
      rw [if_pos (by omega)]
      rfl
    rw [eb]
    exact e
theorem rn_of : ∀ (l : List Zc) (J : List Int) (a : Int), (a :: J).Pairwise (· < ·) → J.length = l.length → (∀ (k : Nat) (p : Zc), l[k]? = some p → (a :: J)[k]? = some p.1 ∧ (a :: J)[k + 1]? = some p.2.1) → ∃ b, (a :: J).getLast? = some b ∧ Rn l a b
  | [], [], a, _, _, _ => ⟨a, rfl, rfl⟩
  | p :: r, [], a, _, h, _ => by simp at h
  | [], b :: J, a, _, h, _ => by simp at h
  | p :: r, c :: J, a, hp, hl, g => by
    obtain ⟨g1, g2⟩ := g 0 p rfl
    obtain ⟨b, e, h⟩ := rn_of r J c (List.pairwise_cons.mp hp).2 (by simpa using hl) fun k q hq => by
      have := g (k + 1) q hq
      exact this
    have e1 : a = p.1 := by simpa using g1
    have e2 : c = p.2.1 := by simpa using g2
    refine ⟨b, by rw [List.getLast?_cons_cons]; exact e, e1.symm, ?_, e2 ▸ h⟩
    rw [← e2]
    exact (List.pairwise_cons.mp hp).1 c (.head _)
theorem Ks.ends {ks : List Int} (h : Ks ks) : ∃ J, srtI ks = 0 :: J ∧ J ≠ [] ∧ (0 :: J).getLast? = some 12 := by
  have r := srtI_rise h.nd
  have m0 : (0 : Int) ∈ srtI ks := srtI_mem.mpr h.z
  have m1 : (12 : Int) ∈ srtI ks := srtI_mem.mpr h.t
  have rg : ∀ x ∈ srtI ks, 0 ≤ x ∧ x ≤ 12 := fun x hx => h.rg x (srtI_mem.mp hx)
  generalize srtI ks = L at *
  cases L with
  | nil => cases m0
  | cons a J =>
    have a0 : a = 0 := by
      rcases List.mem_cons.mp m0 with e | e
      · exact e.symm
      · have := (List.pairwise_cons.mp r).1 0 e
        have := rg a (.head _)
        omega
    subst a0
    refine ⟨J, rfl, fun z => by subst z; simp at m1, ?_⟩
    obtain ⟨t, z, e⟩ : ∃ t z, (0 : Int) :: J = t ++ [z] := by
      rcases snoc_cases ((0 : Int) :: J) with e | ⟨t, z, e⟩
      · cases e
      · exact ⟨t, z, e⟩
    rw [e] at r m1 rg ⊢
    rw [List.getLast?_concat]
    rcases List.mem_append.mp m1 with e' | e'
    · have := (List.pairwise_append.mp r).2.2 12 e' z (.head _)
      have := rg z (List.mem_append_right _ (.head _))
      omega
    · rw [List.mem_singleton] at e'
      rw [e']
theorem L_row (ns : List Int) (at_ most size : Int) (h0 : 0 ≤ at_) (h1 : at_ ≤ 900) (m0 : 1 ≤ most) (m8 : most ≤ 8) (s0 : 1 ≤ size) (s6 : size ≤ 6) : ∃ l : List Zc, F__law_row [scr ns, .int at_, .int most, .int size] = okM (.fresh ((l.map zP).map pD)) ∧ Rw l 0 12 := by
  have szl : (sizeLine : Nat) = 16777216 := rfl
  obtain ⟨c, hc⟩ := L_cell ns at_ h0 (by omega)
  have k1 := Int.emod_nonneg c (b := most) (by omega)
  have k2 := Int.emod_lt_of_pos c (b := most) (by omega)
  obtain ⟨n, hn⟩ : ∃ n : Nat, (n : Int) = c % most := ⟨(c % most).toNat, by omega⟩
  obtain ⟨r5, ks, hdic, hk, hkl⟩ := dic_row ns at_ most size h0 (by omega) (rangeL 0 n) [0, 12] .no (fun d hd => by
    obtain ⟨i, hi, rfl⟩ := range_mem hd
    exact ⟨i, by omega, rfl⟩) ⟨by decide, by decide, by decide, by decide⟩ (by rw [range_len]; show 2 + n ≤ 50; omega)
  rw [range_len] at hkl
  have hkl' : ks.length ≤ 2 + n := hkl
  obtain ⟨J', eJ, J0, eL⟩ := hk.ends
  obtain ⟨J, hJ⟩ : ∃ J : List Int, J = srtI ks := ⟨_, rfl⟩
  have rJ : J.Pairwise (· < ·) := by rw [hJ]; exact srtI_rise hk.nd
  have Jl : J.length ≤ 9 := by rw [hJ, (@srtI_perm ⟨fun _ => 0⟩ ks).length_eq]; omega
  have Jp : 2 ≤ J.length := by
    rw [hJ, eJ, List.length_cons]
    have := List.length_pos_iff.mpr J0
    omega
  have Jr : ∀ x ∈ J, 0 ≤ x ∧ x ≤ 12 := fun x hx => hk.rg x (srtI_mem.mp (by rw [← hJ]; exact hx))
  have lenJ : g1 lenOf [Rz.var (J.map PyData.int)] = okM (.dat (.int (J.length : Int))) := by
    show okM (Rz.dat (PyData.int ((J.map PyData.int).length : Int))) = _
    rw [List.length_map]
  have hD : (fDic 4 6 [0, 12] (fR rng1 (fCons (f2 (gI gMod) (fCall (gF 2 F__law_cell_at) (fCons (fVar 0) (fCons (fVar 1) fNil))) (fVar 2)) fNil)) (tName 5) ((f2 (gI gAdd) (fC (.int 1)) (f2 (gI gMod) (fCall (gF 2 F__law_cell_at) (fCons (fVar 0) (fCons (f2 (gI gAdd) (f2 (gI gAdd) (fVar 1) (fC (.int 1))) (fVar 5)) fNil))) (fC (.int 11)))) :: [])) [.dat (scr ns), .dat (.int at_), .dat (.int most), .dat (.int size), .no, .no, .no, .no, .no, .no, .no] = some (.next [.dat (scr ns), .dat (.int at_), .dat (.int most), .dat (.int size), .no, r5, .own (J.map PyData.int), .no, .no, .no, .no]) := by
    unfold fDic
    rw [if_pos (by show 4 < 11; decide)]
    rw [show (fR rng1 (fCons (f2 (gI gMod) (fCall (gF 2 F__law_cell_at) (fCons (fVar 0) (fCons (fVar 1) fNil))) (fVar 2)) fNil)) (([.dat (scr ns), .dat (.int at_), .dat (.int most), .dat (.int size), .no, .no, .no, .no, .no, .no, .no] : List Sl).set 4 .no) = okM (rangeL 0 n) from ev_rng1 (m := n) (ev_cons (ev_f2 (ev_call (ev_cons rfl (ev_cons rfl rfl)) (ev_gF rfl rfl hc rfl)) rfl (gModP (by omega))) rfl) (by omega) (by omega) (by omega)]
    unfold okM
    dsimp only
    rw [show ([.dat (scr ns), .dat (.int at_), .dat (.int most), .dat (.int size), .no, .no, .no, .no, .no, .no, .no] : List Sl).set 4 .no = [.dat (scr ns), .dat (.int at_), .dat (.int most), .dat (.int size), .no, .no, .no, .no, .no, .no, .no] from rfl, hdic]
    dsimp only
    rw [if_pos (by omega), ← hJ]
    rfl
  obtain ⟨δ', e, l, r5', r8, r9, r10, rfl, ll, lg⟩ := forN_inv (g := tName 5) (b := (fSeq (fSet 8 (fCall (gF 2 F__law_cell_at) (fCons (fVar 0) (fCons (f2 (gI gAdd) (f2 (gI gAdd) (fVar 1) (fC (.int 10))) (fVar 5)) fNil))))
    (fSeq (fSet 9 (fCall D3.gLst fNil))
    (fSeq (fFor (fR rng1 (fCons (f2 (gI gAdd) (fC (.int 1)) (f2 (gI gMod) (fVar 8) (fVar 3))) fNil)) (tName 10) (fSeq (fApp 9 (fCall (gF 2 F__law_num) (fCons (f2 (gI D3.gSub) (f2 (gI gMod) (fVar 8) (fC (.int 7))) (fC (.int 3))) (fCons (f2 (gI gAdd) (fC (.int 1)) (f2 (gI gMod) (fVar 10) (fC (.int 2)))) fNil))))
    (fSet 8 (f2 (gI gAdd) (f2 (gI gFdiv) (fVar 8) (fC (.int 7))) (fVar 10)))))
    (fApp 7 (fCall D3.gTup (fCons (fCall D3.gTup (fCons (f2 gIx (fVar 6) (fVar 5)) (fCons (fC (.int 1)) fNil))) (fCons (fCall D3.gTup (fCons (f2 gIx (fVar 6) (f2 (gI gAdd) (fVar 5) (fC (.int 1)))) (fCons (fC (.int 1)) fNil))) (fCons (fCall (gF 1 F__law_clean) (fCons (fVar 9) fNil)) fNil))))))))) (δ := [.dat (scr ns), .dat (.int at_), .dat (.int most), .dat (.int size), .no, r5, .own (J.map PyData.int), .own [], .no, .no, .no])
    (fun i δ => ∃ (l : List Zc) (r5 r8 r9 r10 : Sl), δ = [.dat (scr ns), .dat (.int at_), .dat (.int most), .dat (.int size), .no, r5, .own (J.map PyData.int), .own ((l.map zP).map pD), r8, r9, r10] ∧ l.length = i ∧ ∀ (k : Nat) (p : Zc), l[k]? = some p → (J[k]? = some p.1 ∧ J[k + 1]? = some p.2.1) ∧ Cz p.2.2) (rangeL 0 (J.length - 1)) ⟨[], _, _, _, _, rfl, rfl, fun k p h => by simp at h⟩
    (by
      rintro i d δ hd ⟨l, r5, r8, r9, r10, rfl, ll, lg⟩
      obtain ⟨hi, rfl⟩ := range_at hd
      have ex : (0 : Int) + (i : Int) = (i : Int) := by omega
      rw [ex]
      obtain ⟨c2, hc2⟩ := L_cell ns (at_ + 10 + (i : Int)) (by omega) (by omega)
      obtain ⟨ja, hja⟩ : ∃ x, J[i]? = some x := ⟨_, List.getElem?_eq_getElem (by omega)⟩
      obtain ⟨jb, hjb⟩ : ∃ x, J[i + 1]? = some x := ⟨_, List.getElem?_eq_getElem (by omega)⟩
      have e1 := Int.emod_nonneg c2 (b := size) (by omega)
      have e2 := Int.emod_lt_of_pos c2 (b := size) (by omega)
      obtain ⟨n2, hn2⟩ : ∃ n2 : Nat, (n2 : Int) = 1 + c2 % size := ⟨(1 + c2 % size).toNat, by omega⟩
      obtain ⟨δ2, e3, nu, ce, r10', rfl, nl, ng⟩ := forN_inv (g := tName 10) (b := (fSeq (fApp 9 (fCall (gF 2 F__law_num) (fCons (f2 (gI D3.gSub) (f2 (gI gMod) (fVar 8) (fC (.int 7))) (fC (.int 3))) (fCons (f2 (gI gAdd) (fC (.int 1)) (f2 (gI gMod) (fVar 10) (fC (.int 2)))) fNil))))
    (fSet 8 (f2 (gI gAdd) (f2 (gI gFdiv) (fVar 8) (fC (.int 7))) (fVar 10))))) (δ := [.dat (scr ns), .dat (.int at_), .dat (.int most), .dat (.int size), .no, .dat (.int (i : Int)), .own (J.map PyData.int), .own ((l.map zP).map pD), .dat (.int c2), .own [], r10])
        (fun j δ => ∃ (nu : List Rat) (ce : Int) (r10 : Sl), δ = [.dat (scr ns), .dat (.int at_), .dat (.int most), .dat (.int size), .no, .dat (.int (i : Int)), .own (J.map PyData.int), .own ((l.map zP).map pD), .dat (.int ce), .own (nu.map nD), r10] ∧ nu.length = j ∧ ∀ v ∈ nu, Gz 2 3 v) (rangeL 0 n2) ⟨[], c2, r10, rfl, rfl, fun v h => nomatch h⟩
        (by
          rintro j d δ hd ⟨nu, ce, r10, rfl, nl, ng⟩
          obtain ⟨hj, rfl⟩ := range_at hd
          obtain ⟨t, ht⟩ : ∃ t : Int, t = ce % 7 - 3 := ⟨_, rfl⟩
          obtain ⟨b, hb⟩ : ∃ b : Int, b = 1 + (0 + (j : Int)) % 2 := ⟨_, rfl⟩
          have t1 : -3 ≤ t ∧ t ≤ 3 := by omega
          have b1 : b = 1 ∨ b = 2 := by omega
          have gv : Gz 2 3 (Rat.divInt t b) := by
            have c2' : ((2 : Int) : Rat) = 2 := rfl
            rcases b1 with rfl | rfl
            · exact ⟨2 * t, by rw [Rat.divInt_eq_div, Rat.intCast_mul, c2']; grind, by omega⟩
            · exact ⟨t, by rw [Rat.divInt_eq_div, c2']; grind, by omega⟩
          refine ⟨_, _, rfl, .inl (ev_seq (ev_app (d := nD (Rat.divInt t b)) rfl (ev_call (ev_cons (x := .dat (.int t)) (ev_f2 (ev_f2 rfl rfl (gModP (by decide))) rfl (by rw [ht]; rfl)) (ev_cons (x := .dat (.int b)) (ev_f2 rfl (ev_f2 rfl rfl (gModP (by decide))) (by rw [hb]; rfl)) rfl)) (ev_gF rfl rfl (L_num t b (by omega) (Nat.lt_of_lt_of_le (show b.natAbs < 2 ^ 2 by omega) (Nat.pow_le_pow_right (by decide) (by decide)))) (outZ_num _))) rfl (by rw [List.length_map]; omega) rfl) (ev_set (ev_f2 (ev_f2 rfl rfl (gFdivP (by decide) (by decide))) rfl rfl) rfl rfl)), nu ++ [Rat.divInt t b], _, _, by rw [List.map_append]; rfl, by simp [nl], fun v hv => ?_⟩
          rcases List.mem_append.mp hv with hv | hv
          · exact ng v hv
          · rw [List.mem_singleton.mp hv]; exact gv)
      rw [range_len] at nl
      have tl := trim_len nu
      refine ⟨_, _, rfl, .inl ?_, l ++ [(ja, jb, trim nu)], .dat (.int (i : Int)), .dat (.int ce), .own (nu.map nD), r10', rfl, by simp [ll], fun k p hp => ?_⟩
      · refine ev_sset (x := .dat (.int c2)) (ev_call (ev_cons rfl (ev_cons (ev_f2 (ev_f2 rfl rfl rfl) rfl rfl) rfl)) (ev_gF rfl rfl hc2 rfl)) rfl (by walk_at "ss") ?_
        refine ev_sset (x := .new []) (ev_call rfl rfl) rfl (by walk_at "ss") ?_
        refine ev_seq (ev_for (ev_rng1 (m := n2) (ev_cons (ev_f2 rfl (ev_f2 rfl rfl (gModP (by omega))) rfl) rfl) (by omega) (by omega) (by omega)) e3) ?_
        refine ev_app (d := pD (zP (ja, jb, trim nu))) rfl (ev_call (ev_cons (x := .dat (nD (ja : Rat))) ?_ (ev_cons (x := .dat (nD (jb : Rat))) ?_ (ev_cons (ev_call rfl (ev_gF (ds := [lD nu]) rfl rfl (L_clean nu) (outZ_cur _))) rfl))) rfl) rfl (by rw [List.length_map, List.length_map]; omega) (by rw [List.map_append, List.map_append]; rfl)
        · rw [nD_num]; exact ev_call (ev_cons (ev_f2 rfl rfl (ix_var (j := i) rfl (by rw [List.getElem?_map, hja]; rfl))) (ev_cons rfl rfl)) rfl
        · rw [nD_num]; exact ev_call (ev_cons (ev_f2 rfl (ev_f2 rfl rfl rfl) (ix_var (j := i + 1) (by omega) (by rw [List.getElem?_map, hjb]; rfl))) (ev_cons rfl rfl)) rfl
      · by_cases ck : k < l.length
        · rw [List.getElem?_append_left ck] at hp
          exact lg k p hp
        · have ek : k = l.length := by
            by_cases c : k < (l ++ [(ja, jb, trim nu)]).length
            · simp at c; omega
            · rw [List.getElem?_eq_none (by omega)] at hp; cases hp
          subst ek
          rw [List.getElem?_append_right (Nat.le_refl _), Nat.sub_self] at hp
          cases hp
          rw [ll]
          exact ⟨⟨hja, hjb⟩, tt nu, by show (trim nu).length ≤ 6; omega, fun v hv => ng v (trim_mem hv)⟩)
  rw [range_len] at ll
  have hrn : Rn l 0 12 := by
    rw [← hJ] at eJ
    obtain ⟨b, eb, h⟩ := rn_of l J' 0 (by rw [← eJ]; exact rJ) (by have := congrArg List.length eJ; rw [List.length_cons] at this; omega) fun k p hp => by rw [← eJ]; exact (lg k p hp).1
    rw [eL] at eb
    cases eb
    exact h
  refine ⟨l, ev_fn rfl ?_, hrn, fun z => by rw [z] at ll; simp at ll; omega, by omega, fun p hp => ?_, fun p hp => ?_⟩
  · show B__law_row [.dat (scr ns), .dat (.int at_), .dat (.int most), .dat (.int size), .no, .no, .no, .no, .no, .no, .no] = _
    unfold B__law_row
    refine ev_seq hD ?_
    refine ev_sset (x := .new []) (ev_call rfl rfl) rfl (by walk_at "ss") ?_
    refine ev_seq (ev_for (ev_rng1 (m := J.length - 1) (ev_cons (ev_f2 (ev_call rfl lenJ) rfl rfl) rfl) (by omega) (by omega) (by omega)) e) ?_
    exact ev_ret rfl (by unfold outOf; dsimp only; rw [if_pos (noLs_pD _)])
  · obtain ⟨k, hk'⟩ := List.getElem?_of_mem hp
    have := Jr _ (List.mem_of_getElem? (lg k p hk').1.2)
    omega
  · obtain ⟨k, hk'⟩ := List.getElem?_of_mem hp
    exact (lg k p hk').2
theorem pD_ok (p : Pc) : PyData.canLay0 (pD p) = true ∧ PyData.depth (pD p) ≤ 6 := by
  have h1 : PyData.canLay0 (cD p.2.2) = true := by unfold cD; simp only [PyData.canLay0]; exact lay_nums _
  have h2 : PyData.depth (cD p.2.2) ≤ 4 := by
    have := dep_nums p.2.2
    unfold cD; simp only [PyData.depth]; omega
  have a1 := dep_num p.1
  have a2 := dep_num p.2.1
  unfold pD
  refine ⟨?_, ?_⟩
  · simp only [PyData.canLay0, PyData.canLayAll0, lay_num, h1, Bool.and_self]
  · simp only [PyData.depth, PyData.depthAll]; omega
theorem lay_rows : ∀ l : List Pc, PyData.canLayAll0 (l.map pD) = true ∧ PyData.depthAll (l.map pD) ≤ 6
  | [] => ⟨by simp [PyData.canLayAll0], by simp [PyData.depthAll]⟩
  | p :: r => by
    obtain ⟨a, b⟩ := lay_rows r
    obtain ⟨c, d⟩ := pD_ok p
    rw [List.map_cons]
    exact ⟨by simp only [PyData.canLayAll0, a, c, Bool.and_self], by simp only [PyData.depthAll]; omega⟩
theorem okD_row (l : List Pc) : okD (.tuple (l.map pD)) = true := by
  obtain ⟨a, b⟩ := lay_rows l
  unfold okD SeqAt.shaped
  have e : ∀ n : Nat, n ≤ 64 → decide (n ≤ 64) = true := fun n h => decide_eq_true h
  simp only [PyData.canLay0, a, PyData.depth, Bool.true_and]
  exact e _ (by omega)
theorem eqv_pD (p : Pc) : PyData.eqv (pD p) (pD p) = true := by
  unfold pD
  simp only [PyData.eqv, PyData.eqvAll]
  rw [eqv_num, eqv_num, eqv_cD]
  simp
theorem eqv_rows : ∀ l : List Pc, PyData.eqvAll (l.map pD) (l.map pD) = true
  | [] => by simp [PyData.eqvAll]
  | p :: r => by rw [List.map_cons]; simp only [PyData.eqvAll, eqv_pD, eqv_rows r, Bool.and_self]
theorem bad_len {ps : List Pc} (h : ps.length = 0 ∨ 8 < ps.length) : rowOk ps = false := by
  unfold rowOk
  rcases h with h | h
  · rw [decide_eq_true h]; rfl
  · rw [decide_eq_true h, Bool.or_true]; rfl

def sw (c : Mc) : Mc := (c.1, c.2.1, c.2.2.2, c.2.2.1)
theorem mg_swap : ∀ (n : Nat) (l m : List Zc) (a : Int), mg n m l a = (mg n l m a).map sw
  | 0, _, _, _ => rfl
  | _ + 1, [], [], _ => rfl
  | _ + 1, [], _ :: _, _ => rfl
  | _ + 1, _ :: _, [], _ => rfl
  | n + 1, p :: r, q :: s, a => by
    rw [mg_cons, mg_cons]
    by_cases c1 : p.2.1 < q.2.1
    · rw [if_neg (by omega), if_pos c1, if_pos c1, List.map_cons, mg_swap n r (q :: s)]; rfl
    · by_cases c2 : q.2.1 < p.2.1
      · rw [if_pos c2, if_neg c1, if_pos c2, List.map_cons, mg_swap n (p :: r) s]; rfl
      · have e : p.2.1 = q.2.1 := by omega
        rw [if_neg c2, if_neg c1, if_neg c1, if_neg c2, List.map_cons, mg_swap n r s, e]; rfl
theorem MG_cP (w : Nat) (l m : List Zc) (a : Int) : (MG m l a).map (cP w) = (MG l m a).map (cP w) := by
  show (mg (m.length + l.length) m l a).map (cP w) = (mg (l.length + m.length) l m a).map (cP w)
  rw [Nat.add_comm, mg_swap, List.map_map]
  refine List.map_congr_left fun c _ => ?_
  show cP w (sw c) = cP w c
  unfold cP sw
  rw [smT_comm]
/-- the merge is a row -/
theorem Rw.row (w : Nat) {l m : List Zc} {a b : Int} (hl : Rw l a b) (hm : Rw m a b) (ha : a.natAbs ≤ 1000) : (MG l m a).length ≠ 0 ∧ (∀ p ∈ (MG l m a).map (cP w), NB.Sz 4000 p.1 ∧ NB.Sz 4000 p.2.1) ∧ ((MG l m a).length ≤ 8 → rowOk ((MG l m a).map (cP w)) = true) := by
  have I := hl.mg hm
  generalize MG l m a = M at *
  have hz : ∀ x ∈ a :: M.map (fun c => c.2.1), x.natAbs ≤ 1000 := fun x hx => by
    rcases List.mem_cons.mp hx with e | e
    · rw [e]; exact ha
    · rcases (I.mem _).mp e with e | e
      · obtain ⟨z, hz, e⟩ := List.mem_map.mp e
        rw [← e]; exact hl.z z hz
      · obtain ⟨z, hz, e⟩ := List.mem_map.mp e
        rw [← e]; exact hm.z z hz
  have hi : ∀ (i : Nat) (c : Mc), M[i]? = some c → (a :: M.map fun c => c.2.1)[i + 1]? = some c.2.1 := fun i c h => by rw [List.getElem?_cons_succ, List.getElem?_map, h]; rfl
  have m0 : M.length ≠ 0 := fun z => by
    obtain ⟨p, r, e⟩ : ∃ p r, l = p :: r := by cases l with | nil => exact absurd rfl hl.ne | cons p r => exact ⟨p, r, rfl⟩
    have := (I.mem p.2.1).mpr (.inl (by rw [e]; exact .head _))
    rw [List.length_eq_zero_iff.mp z] at this
    cases this
  refine ⟨m0, fun p hp => ?_, fun h8 => row_ok _ (by rw [List.length_map]; exact m0) (by rw [List.length_map]; exact h8) (fun p hp => ?_) fun j p p' hp hp' => ?_⟩
  · obtain ⟨c, hc, rfl⟩ := List.mem_map.mp hp
    obtain ⟨i, hi'⟩ := List.getElem?_of_mem hc
    exact ⟨sz_int (hz _ (List.mem_of_getElem? (I.low i c hi'))), sz_int (hz _ (List.mem_of_getElem? (hi i c hi')))⟩
  · obtain ⟨c, hc, rfl⟩ := List.mem_map.mp hp
    obtain ⟨i, hi'⟩ := List.getElem?_of_mem hc
    have e1 := I.low i c hi'
    have e2 := hi i c hi'
    obtain ⟨h1, e1⟩ := List.getElem?_eq_some_iff.mp e1
    obtain ⟨h2, e2⟩ := List.getElem?_eq_some_iff.mp e2
    have := List.pairwise_iff_getElem.mp I.rise i (i + 1) h1 h2 (by omega)
    rw [e1, e2] at this
    exact Rat.intCast_lt_intCast.mpr this
  · rw [List.getElem?_map, Option.map_eq_some_iff] at hp hp'
    obtain ⟨c, hc, rfl⟩ := hp
    obtain ⟨c', hc', rfl⟩ := hp'
    have e1 := I.low (j + 1) c' hc'
    rw [hi j c hc] at e1
    show ((c'.1 : Int) : Rat) = ((c.2.1 : Int) : Rat)
    rw [Option.some.inj e1]
/-- what both say -/
def Say (w : Nat) (ps qs : List Pc) : Prop := ∃ d, okD d = true ∧ PyData.eqv d d = true ∧ outZ (.val d) = .dat d ∧ F__law_due [.int (w : Int), .list (ps.map pD), .list (qs.map pD)] = okM (.val d) ∧ F__law_told [.int (w : Int), .tuple (ps.map pD), .tuple (qs.map pD)] = okM (.val d) ∧ F__law_told [.int (w : Int), .tuple (qs.map pD), .tuple (ps.map pD)] = okM (.val d)
theorem say_same (w : Nat) (hw : w = 0 ∨ w = 1) {l m : List Zc} {a b : Int} (hl : Rw l a b) (hm : Rw m a b) (ha : a.natAbs ≤ 1000) : Say w (l.map zP) (m.map zP) := by
  obtain ⟨n0, zs, ro⟩ := hl.row w hm ha
  have hlen := mg_len (l.length + m.length) l m a
  have l8 := hl.len
  have m8 := hm.len
  have hn : ((MG l m a).map (cP w)).length ≤ 100 := by rw [List.length_map]; show (mg _ _ _ _).length ≤ _; omega
  have X : ∀ {l m : List Zc} (hl : Rw l a b) (hm : Rw m a b) (C : Ex) (nm : Str), ((C = .NoPieces ∧ nm = "pieces") ∨ (C = .TooGreat ∧ nm = "great")) → F_row_of [.list (((MG l m a).map (cP w)).map pD)] = some (.err C) → F__law_told [.int (w : Int), .tuple ((l.map zP).map pD), .tuple ((m.map zP).map pD)] = okM (.val (.str nm)) := fun {l m} hl hm C nm h hr => by
    refine L_toldX w hw _ _ C nm h ?_
    rcases hw with rfl | rfl
    · rw [if_pos rfl]; exact ev_gFX (ds := [.tuple ((l.map zP).map pD), .tuple ((m.map zP).map pD)]) rfl rfl (P_rows0X hl hm hr)
    · rw [if_neg (by decide)]; exact ev_gFX (ds := [.tuple ((l.map zP).map pD), .tuple ((m.map zP).map pD)]) rfl rfl (P_rows1X hl hm hr)
  have Y : ∀ {l m : List Zc} (hl : Rw l a b) (hm : Rw m a b), F_row_of [.list (((MG l m a).map (cP w)).map pD)] = okM (.val (.tuple (((MG l m a).map (cP w)).map pD))) → F__law_told [.int (w : Int), .tuple ((l.map zP).map pD), .tuple ((m.map zP).map pD)] = okM (.val (.tuple (((MG l m a).map (cP w)).map pD))) := fun {l m} hl hm hr => by
    refine L_told w hw _ _ _ ?_
    rcases hw with rfl | rfl
    · rw [if_pos rfl]; exact ev_gF (ds := [.tuple ((l.map zP).map pD), .tuple ((m.map zP).map pD)]) rfl rfl (P_rows0 hl hm hr) (outZ_row _)
    · rw [if_neg (by decide)]; exact ev_gF (ds := [.tuple ((l.map zP).map pD), .tuple ((m.map zP).map pD)]) rfl rfl (P_rows1 hl hm hr) (outZ_row _)
  rcases L_due w hw hl hm ha with ⟨h9, hd⟩ | ⟨h8, ⟨c, hc, h7⟩, hd⟩ | ⟨h8, h7, hd⟩
  · have hr := P_row_ofX _ hn zs (bad_len (.inr (by rw [List.length_map]; exact h9)))
    exact ⟨_, by decide +kernel, by simp [PyData.eqv], rfl, hd, X hl hm _ _ (.inl ⟨rfl, rfl⟩) hr, X hm hl _ _ (.inl ⟨rfl, rfl⟩) (by rw [MG_cP]; exact hr)⟩
  · have hr := P_row_ofG _ hn zs (ro h8) (by
      unfold gtB
      rw [List.any_map, List.any_eq_true]
      refine ⟨cP w c, List.mem_map.mpr ⟨c, hc, rfl⟩, ?_⟩
      show decide (((smT w c.2.2.1 c.2.2.2).length : Int) - 1 > 6) = true
      exact decide_eq_true (by omega))
    exact ⟨_, by decide +kernel, by simp [PyData.eqv], rfl, hd, X hl hm _ _ (.inr ⟨rfl, rfl⟩) hr, X hm hl _ _ (.inr ⟨rfl, rfl⟩) (by rw [MG_cP]; exact hr)⟩
  · have hr := P_row_of _ hn zs (ro h8) (no_gt _ fun p hp => by obtain ⟨c, hc, rfl⟩ := List.mem_map.mp hp; exact h7 c hc)
    refine ⟨_, okD_row _, by simp only [PyData.eqv]; exact eqv_rows _, outZ_row _, hd, Y hl hm hr, ?_⟩
    have := Y hm hl (by rw [MG_cP]; exact hr)
    rwa [MG_cP] at this
theorem say_diff (w : Nat) (hw : w = 0 ∨ w = 1) {ps qs : List Pc} {p q y z : Pc} (hp : ps.head? = some p) (hq : qs.head? = some q) (hy : ps.getLast? = some y) (hz : qs.getLast? = some z) (h : p.1 ≠ q.1 ∨ y.2.1 ≠ z.2.1) : Say w ps qs := by
  refine ⟨.str "pieces", by decide +kernel, by simp [PyData.eqv], rfl, L_dueE w hp hq hy hz h, ?_, ?_⟩
  · refine L_toldX w hw _ _ .NoPieces "pieces" (.inl ⟨rfl, rfl⟩) ?_
    rcases hw with rfl | rfl
    · rw [if_pos rfl]; exact ev_gFX (ds := [.tuple (ps.map pD), .tuple (qs.map pD)]) rfl rfl (P_rows0E hp hq hy hz h)
    · rw [if_neg (by decide)]; exact ev_gFX (ds := [.tuple (ps.map pD), .tuple (qs.map pD)]) rfl rfl (P_rows1E hp hq hy hz h)
  · have h' : q.1 ≠ p.1 ∨ z.2.1 ≠ y.2.1 := by rcases h with h | h; exact .inl (Ne.symm h); exact .inr (Ne.symm h)
    refine L_toldX w hw _ _ .NoPieces "pieces" (.inl ⟨rfl, rfl⟩) ?_
    rcases hw with rfl | rfl
    · rw [if_pos rfl]; exact ev_gFX (ds := [.tuple (qs.map pD), .tuple (ps.map pD)]) rfl rfl (P_rows0E hq hp hz hy h')
    · rw [if_neg (by decide)]; exact ev_gFX (ds := [.tuple (qs.map pD), .tuple (ps.map pD)]) rfl rfl (P_rows1E hq hp hz hy h')
/-! rows made -/
theorem Rn.lt : ∀ {l : List Zc} {a b : Int}, Rn l a b → ∀ p ∈ l, p.1 < p.2.1
  | q :: r, a, b, h, p, hp => by
    rcases List.mem_cons.mp hp with rfl | hp
    · rw [h.1]; exact h.2.1
    · exact h.2.2.lt p hp
theorem Rn.lk : ∀ {l : List Zc} {a b : Int}, Rn l a b → ∀ (j : Nat) (p p' : Zc), l[j]? = some p → l[j + 1]? = some p' → p'.1 = p.2.1
  | q :: r, a, b, h, 0, p, p', hp, hp' => by
    cases hp
    cases r with
    | nil => cases hp'
    | cons q' r' => cases hp'; exact h.2.2.1
  | q :: r, a, b, h, j + 1, p, p', hp, hp' => h.2.2.lk j p p' hp hp'
theorem set_ok {l : List Zc} {a b : Int} (h : Rw l a b) (ha : a.natAbs ≤ 1000) (j : Nat) (o p : Pc) (ho : (l.map zP)[j]? = some o) (h1 : p.1 = o.1 ∨ j = 0) (h2 : p.2.1 = o.2.1 ∨ j + 1 = l.length) (h3 : p.1 < p.2.1) (h4 : p.2.2 = o.2.2) (hz : NB.Sz 4000 p.1 ∧ NB.Sz 4000 p.2.1) : F_row_of [.list (((l.map zP).set j p).map pD)] = okM (.val (.tuple (((l.map zP).set j p).map pD))) := by
  have l8 := h.len
  have hj : j < l.length := by have := (List.getElem?_eq_some_iff.mp ho).1; rwa [List.length_map] at this
  have get : ∀ {k : Nat} {x : Pc}, ((l.map zP).set j p)[k]? = some x → (k = j ∧ x = p) ∨ (k ≠ j ∧ (l.map zP)[k]? = some x) := fun {k x} e => by
    by_cases c : j = k
    · subst c
      rw [List.getElem?_set_self (by rw [List.length_map]; exact hj)] at e
      exact .inl ⟨rfl, (Option.some.inj e).symm⟩
    · rw [List.getElem?_set_ne c] at e
      exact .inr ⟨fun z => c z.symm, e⟩
  have zm : ∀ {k : Nat} {x : Pc}, (l.map zP)[k]? = some x → ∃ q, l[k]? = some q ∧ x = zP q := fun e => by
    rw [List.getElem?_map, Option.map_eq_some_iff] at e
    obtain ⟨q, a, b⟩ := e
    exact ⟨q, a, b.symm⟩
  refine P_row_of _ (by simp only [List.length_set, List.length_map]; omega) (fun x hx => ?_) (row_ok _ (by simp only [List.length_set, List.length_map]; omega) (by simp only [List.length_set, List.length_map]; omega) (fun x hx => ?_) fun k x x' e e' => ?_) (no_gt _ fun x hx => ?_)
  · rcases List.mem_or_eq_of_mem_set hx with hx | rfl
    · obtain ⟨q, hq, rfl⟩ := List.mem_map.mp hx
      exact ⟨sz_int (h.lowz ha q hq), sz_int (h.z q hq)⟩
    · exact hz
  · rcases List.mem_or_eq_of_mem_set hx with hx | rfl
    · obtain ⟨q, hq, rfl⟩ := List.mem_map.mp hx
      exact Rat.intCast_lt_intCast.mpr (h.rn.lt q hq)
    · exact h3
  · have lk : ∀ {k : Nat} {x x' : Pc}, (l.map zP)[k]? = some x → (l.map zP)[k + 1]? = some x' → x'.1 = x.2.1 := fun e e' => by
      obtain ⟨q, hq, rfl⟩ := zm e
      obtain ⟨q', hq', rfl⟩ := zm e'
      show ((q'.1 : Int) : Rat) = ((q.2.1 : Int) : Rat)
      rw [h.rn.lk _ q q' hq hq']
    rcases get e with ⟨ek, ex⟩ | ⟨ek, f⟩
    · rcases get e' with ⟨ek', _⟩ | ⟨_, f'⟩
      · omega
      · rw [ek] at f'
        rw [ex]
        rcases h2 with h2 | h2
        · rw [h2]; exact lk ho f'
        · have := (List.getElem?_eq_some_iff.mp f').1
          rw [List.length_map] at this
          omega
    · rcases get e' with ⟨ek', ex'⟩ | ⟨_, f'⟩
      · rw [ex']
        rcases h1 with h1 | h1
        · rw [h1]; exact lk f (by rw [ek']; exact ho)
        · omega
      · exact lk f f'
  · rcases List.mem_or_eq_of_mem_set hx with hx | rfl
    · obtain ⟨q, hq, rfl⟩ := List.mem_map.mp hx
      have := (h.cz q hq).len
      show q.2.2.length ≤ 7
      omega
    · rw [h4]
      obtain ⟨q, hq, rfl⟩ := zm ho
      have := (h.cz q (List.mem_of_getElem? hq)).len
      show q.2.2.length ≤ 7
      omega
theorem row_of_zP {l : List Zc} {a b : Int} (h : Rw l a b) (ha : a.natAbs ≤ 1000) : F_row_of [.list ((l.map zP).map pD)] = okM (.val (.tuple ((l.map zP).map pD))) := by
  obtain ⟨o, ho⟩ : ∃ o, (l.map zP)[0]? = some o := ⟨_, List.getElem?_eq_getElem (by rw [List.length_map]; exact List.length_pos_iff.mpr h.ne)⟩
  have e : (l.map zP).set 0 o = l.map zP := by
    obtain ⟨h1, h2⟩ := List.getElem?_eq_some_iff.mp ho
    rw [← h2, List.set_getElem_self]
  obtain ⟨q, hq, rfl⟩ := List.mem_map.mp (List.mem_of_getElem? ho)
  have := set_ok h ha 0 (zP q) (zP q) ho (.inl rfl) (.inl rfl) (Rat.intCast_lt_intCast.mpr (h.rn.lt q hq)) rfl ⟨sz_int (h.lowz ha q hq), sz_int (h.z q hq)⟩
  rwa [e] at this

theorem pure_law (ns : List Int) (_h : ns.length ≤ 63) : F_law [scr ns] = okM (.val (.bool true)) := by
  have szl : (sizeLine : Nat) = 16777216 := rfl
  refine ev_fn rfl ?_
  show B_law [.dat (scr ns), .no, .no, .no, .no, .no, .no, .no] = _
  unfold B_law
  obtain ⟨c50, h50⟩ := L_cell ns 50 (by decide) (by decide)
  obtain ⟨c51, h51⟩ := L_cell ns 51 (by decide) (by decide)
  obtain ⟨way, hway⟩ : ∃ way : Int, way = c50 % 4 := ⟨_, rfl⟩
  have w4 : way = 0 ∨ way = 1 ∨ way = 2 ∨ way = 3 := by omega
  refine ev_sset (x := .dat (.int way)) (ev_f2 (ev_call (ev_cons rfl (ev_cons rfl rfl)) (ev_gF rfl rfl h50 rfl)) rfl (by rw [hway]; exact gModP (by decide))) rfl (by walk_at "ss") ?_
  obtain ⟨most, m0, m8, hm⟩ : ∃ most : Int, 1 ≤ most ∧ most ≤ 8 ∧ gIx (.new [.int 4, .int 4, .int 8, .int 4]) (.dat (.int way)) = okM (.dat (.int most)) := by
    rcases w4 with e | e | e | e <;> rw [e]
    · exact ⟨4, by decide, by decide, ix_new (j := 0) rfl rfl⟩
    · exact ⟨4, by decide, by decide, ix_new (j := 1) rfl rfl⟩
    · exact ⟨8, by decide, by decide, ix_new (j := 2) rfl rfl⟩
    · exact ⟨4, by decide, by decide, ix_new (j := 3) rfl rfl⟩
  obtain ⟨size, s0, s6, hs⟩ : ∃ size : Int, 1 ≤ size ∧ size ≤ 6 ∧ gIx (.new [.int 3, .int 3, .int 3, .int 6]) (.dat (.int way)) = okM (.dat (.int size)) := by
    rcases w4 with e | e | e | e <;> rw [e]
    · exact ⟨3, by decide, by decide, ix_new (j := 0) rfl rfl⟩
    · exact ⟨3, by decide, by decide, ix_new (j := 1) rfl rfl⟩
    · exact ⟨3, by decide, by decide, ix_new (j := 2) rfl rfl⟩
    · exact ⟨6, by decide, by decide, ix_new (j := 3) rfl rfl⟩
  refine ev_sset (x := .dat (.int most)) (ev_f2 (ev_call rfl rfl) rfl hm) rfl (by walk_at "ss") ?_
  refine ev_sset (x := .dat (.int size)) (ev_f2 (ev_call rfl rfl) rfl hs) rfl (by walk_at "ss") ?_
  obtain ⟨l, el, hl⟩ := L_row ns 0 most size (by decide) (by decide) m0 m8 s0 s6
  obtain ⟨m, em, hmr⟩ := L_row ns 25 most size (by decide) (by decide) m0 m8 s0 s6
  refine ev_sset (x := .new ((l.map zP).map pD)) (ev_call (ev_cons rfl (ev_cons rfl (ev_cons rfl (ev_cons rfl rfl)))) (ev_gF rfl rfl el rfl)) rfl (by walk_at "ss") ?_
  refine ev_sset (x := .new ((m.map zP).map pD)) (ev_call (ev_cons rfl (ev_cons rfl (ev_cons rfl (ev_cons rfl rfl)))) (ev_gF rfl rfl em rfl)) rfl (by walk_at "ss") ?_
  have a0 : (0 : Int).natAbs ≤ 1000 := by decide
  have hl8 := hl.len
  have hm8 := hmr.len
  have rl := row_of_zP hl a0
  obtain ⟨lp, hlp, elp⟩ := zP_head hl
  obtain ⟨lz, hlz, elz⟩ := zP_last hl
  obtain ⟨p0, hp0, ep0⟩ := zP_head hmr
  obtain ⟨z0, hz0, ez0⟩ := zP_last hmr
  have hml : 0 < m.length := List.length_pos_iff.mpr hmr.ne
  -- the other row
  obtain ⟨qs, hmid, hrow, hsay⟩ : ∃ qs : List Pc, (fIfS (fAnd (fB (f2 (gEq false) (fVar 1) (fC (.int 1)))) (fB (f2 (gEq false) (f2 (gI gMod) (fCall (gF 2 F__law_cell_at) (fCons (fVar 0) (fCons (fC (.int 51)) fNil))) (fC (.int 2))) (fC (.int 1))))) (fPut 5 (fCall D3.gTup (fCons (f2 gIx (f2 gIx (fVar 5) (fU negOf (fC (.int 1)))) (fC (.int 0))) (fCons (fCall D3.gTup (fCons (fC (.int 13)) (fCons (fC (.int 1)) fNil))) (fCons (f2 gIx (f2 gIx (fVar 5) (fU negOf (fC (.int 1)))) (fC (.int 2))) fNil)))) (fU negOf (fC (.int 1)))) (fIfS (fB (f2 (gEq false) (fVar 1) (fC (.int 1)))) (fPut 5 (fCall D3.gTup (fCons (f2 gIx (fCall D3.gLst (fCons (fCall D3.gTup (fCons (fU negOf (fC (.int 1))) (fCons (fC (.int 1)) fNil))) (fCons (fCall D3.gTup (fCons (fC (.int 1)) (fCons (fC (.int 2)) fNil))) fNil))) (f2 (gI gMod) (f2 (gI gFdiv) (fCall (gF 2 F__law_cell_at) (fCons (fVar 0) (fCons (fC (.int 51)) fNil))) (fC (.int 2))) (fC (.int 2)))) (fCons (f2 gIx (f2 gIx (fVar 5) (fC (.int 0))) (fC (.int 1))) (fCons (f2 gIx (f2 gIx (fVar 5) (fC (.int 0))) (fC (.int 2))) fNil)))) (fC (.int 0))) fNext)) [.dat (scr ns), .dat (.int way), .dat (.int most), .dat (.int size), .own ((l.map zP).map pD), .own ((m.map zP).map pD), .no, .no] = some (.next [.dat (scr ns), .dat (.int way), .dat (.int most), .dat (.int size), .own ((l.map zP).map pD), .own (qs.map pD), .no, .no]) ∧ F_row_of [.list (qs.map pD)] = okM (.val (.tuple (qs.map pD))) ∧ ∀ w : Nat, (w = 0 ∨ w = 1) → Say w (l.map zP) qs := by
    have cw : fB (f2 (gEq false) (fVar 1) (fC (.int 1))) [.dat (scr ns), .dat (.int way), .dat (.int most), .dat (.int size), .own ((l.map zP).map pD), .own ((m.map zP).map pD), .no, .no] = okM (decide (way = 1)) := ev_fB (ev_f2 rfl rfl (gEq_int _ _)) rfl
    by_cases c1 : way = 1
    · have cw2 : fB (f2 (gEq false) (f2 (gI gMod) (fCall (gF 2 F__law_cell_at) (fCons (fVar 0) (fCons (fC (.int 51)) fNil))) (fC (.int 2))) (fC (.int 1))) [.dat (scr ns), .dat (.int way), .dat (.int most), .dat (.int size), .own ((l.map zP).map pD), .own ((m.map zP).map pD), .no, .no] = okM (decide (c51 % 2 = 1)) := ev_fB (ev_f2 (ev_f2 (ev_call (ev_cons rfl (ev_cons rfl rfl)) (ev_gF rfl rfl h51 rfl)) rfl (gModP (by decide))) rfl (gEq_int _ _)) rfl
      have gl : (m.map zP)[m.length - 1]? = some z0 := by
        rw [List.getLast?_eq_getElem?, List.length_map] at hz0; exact hz0
      have g0 : (m.map zP)[0]? = some p0 := by rw [← hp0]; cases m <;> rfl
      obtain ⟨zq, hzq, ezq⟩ := List.mem_map.mp (List.mem_of_getElem? gl)
      obtain ⟨pq, hpq, epq⟩ := List.mem_map.mp (List.mem_of_getElem? g0)
      by_cases c2 : c51 % 2 = 1
      · refine ⟨(m.map zP).set (m.length - 1) (z0.1, 13, z0.2.2), ?_, ?_, fun w hw => ?_⟩
        · refine ev_iT (ev_andT (by rw [cw, decide_eq_true c1]) (by rw [cw2, decide_eq_true c2])) ?_
          have il : gIx (.var ((m.map zP).map pD)) (.dat (.int (-1))) = okM (.dat (pD z0)) := by
            refine ix_at ?_
            rcases snoc_cases (m.map zP) with e | ⟨t, a, e⟩
            · rw [e] at hz0; cases hz0
            · rw [e] at hz0 ⊢; rw [List.getLast?_concat] at hz0; cases hz0; rw [List.map_append]; exact atI_last _ _
          refine ev_put (d := pD (z0.1, 13, z0.2.2)) (ds := (m.map zP).map pD) (j := m.length - 1) (y := .dat (.int (-1))) (i := -1) (ev_call (ev_cons (ev_f2 (ev_f2 rfl (ev_fU rfl rfl) il) rfl ix_t0) (ev_cons (ev_call (ev_cons rfl (ev_cons rfl rfl)) rfl) (ev_cons (ev_f2 (ev_f2 rfl (ev_fU rfl rfl) il) rfl (ix_tup (j := 2) rfl rfl)) rfl))) rfl) rfl (ev_fU rfl rfl) rfl rfl ?_ (by rw [← List.map_set]; rfl)
          rw [List.length_map, List.length_map]
          obtain ⟨k, hk⟩ : ∃ k, m.length = k + 1 := ⟨m.length - 1, by omega⟩
          rw [hk]
          exact ixN_last k
        · refine set_ok hmr a0 (m.length - 1) z0 _ gl (.inl rfl) (.inr (by omega)) ?_ rfl ⟨?_, show NB.Sz 4000 (13 : Rat) from ⟨by decide +kernel, by decide +kernel⟩⟩
          · have h1 := Rat.intCast_lt_intCast.mpr (hmr.rn.lt zq hzq)
            have h2 : z0.1 < z0.2.1 := by rw [← ezq]; exact h1
            rw [ez0] at h2
            show z0.1 < 13
            have : ((12 : Int) : Rat) = 12 := rfl
            grind
          · rw [← ezq]; exact sz_int (hmr.lowz a0 zq hzq)
        · obtain ⟨q', hq'⟩ : ∃ q', ((m.map zP).set (m.length - 1) (z0.1, 13, z0.2.2)).head? = some q' := by
            rw [List.head?_eq_getElem?]
            exact ⟨_, List.getElem?_eq_getElem (by simp only [List.length_set, List.length_map]; omega)⟩
          have hz' : ((m.map zP).set (m.length - 1) (z0.1, 13, z0.2.2)).getLast? = some (z0.1, 13, z0.2.2) := by
            rw [List.getLast?_eq_getElem?, List.length_set, List.length_map, List.getElem?_set_self (by rw [List.length_map]; omega)]
          refine say_diff w hw hlp hq' hlz hz' (.inr ?_)
          rw [elz]
          show ((12 : Int) : Rat) ≠ 13
          decide +kernel
      · obtain ⟨x, hx, ix⟩ : ∃ x : Rat, (x = -1 ∨ x = 1 / 2) ∧ gIx (.new [.tuple [.int (-1), .int 1], .tuple [.int 1, .int 2]]) (.dat (.int (c51 / 2 % 2))) = okM (.dat (nD x)) := by
          have : c51 / 2 % 2 = 0 ∨ c51 / 2 % 2 = 1 := by omega
          rcases this with e | e <;> rw [e]
          · exact ⟨-1, .inl rfl, ix_new (j := 0) rfl rfl⟩
          · refine ⟨1 / 2, .inr rfl, ix_new (j := 1) rfl ?_⟩
            have : nD (1 / 2 : Rat) = .tuple [.int 1, .int 2] := by unfold nD; rw [show (1 / 2 : Rat).num = 1 by decide +kernel, show (1 / 2 : Rat).den = 2 by decide +kernel]; rfl
            rw [this]; rfl
        refine ⟨(m.map zP).set 0 (x, p0.2.1, p0.2.2), ?_, ?_, fun w hw => ?_⟩
        · refine ev_iF (ev_andT (by rw [cw, decide_eq_true c1]) (by rw [cw2, decide_eq_false c2])) (ev_iT (by rw [cw, decide_eq_true c1]) ?_)
          have il : gIx (.var ((m.map zP).map pD)) (.dat (.int 0)) = okM (.dat (pD p0)) := ix_var (j := 0) rfl (get_pD g0)
          refine ev_put (d := pD (x, p0.2.1, p0.2.2)) (ds := (m.map zP).map pD) (j := 0) (y := .dat (.int 0)) (i := 0) (ev_call (ev_cons (ev_f2 (x := .new [.tuple [.int (-1), .int 1], .tuple [.int 1, .int 2]]) (ev_call (ev_cons (ev_call (ev_cons (ev_fU rfl rfl) (ev_cons rfl rfl)) rfl) (ev_cons (ev_call (ev_cons rfl (ev_cons rfl rfl)) rfl) rfl)) rfl) (ev_f2 (ev_f2 (ev_call (ev_cons rfl (ev_cons rfl rfl)) (ev_gF rfl rfl h51 rfl)) rfl (gFdivP (by decide) (by decide))) rfl (gModP (by decide))) ix) (ev_cons (ev_f2 (ev_f2 rfl rfl il) rfl ix_t1) (ev_cons (ev_f2 (ev_f2 rfl rfl il) rfl (ix_tup (j := 2) rfl rfl)) rfl))) rfl) rfl rfl rfl rfl (ixN_nat rfl (by rw [List.length_map, List.length_map]; exact hml)) (by rw [← List.map_set]; rfl)
        · refine set_ok hmr a0 0 p0 _ g0 (.inr rfl) (.inl rfl) ?_ rfl ⟨?_, ?_⟩
          · have h1 := hmr.rn.lt pq hpq
            have e1 : (pq.1 : Rat) = ((0 : Int) : Rat) := by rw [← ep0, ← epq]; rfl
            have e2 : pq.1 = 0 := Rat.intCast_inj.mp e1
            have h2 : (1 : Rat) ≤ ((pq.2.1 : Int) : Rat) := by
              have : (1 : Int) ≤ pq.2.1 := by omega
              exact_mod_cast this
            show x < p0.2.1
            rw [← epq]
            show x < ((pq.2.1 : Int) : Rat)
            rcases hx with rfl | rfl <;> grind
          · show NB.Sz 4000 x
            rcases hx with rfl | rfl <;> exact ⟨by decide +kernel, by decide +kernel⟩
          · rw [← epq]; exact sz_int (hmr.z pq hpq)
        · have hq' : ((m.map zP).set 0 (x, p0.2.1, p0.2.2)).head? = some (x, p0.2.1, p0.2.2) := by
            rw [List.head?_eq_getElem?, List.getElem?_set_self (by rw [List.length_map]; exact hml)]
          obtain ⟨z', hz'⟩ : ∃ z', ((m.map zP).set 0 (x, p0.2.1, p0.2.2)).getLast? = some z' := by
            rw [List.getLast?_eq_getElem?]
            exact ⟨_, List.getElem?_eq_getElem (by simp only [List.length_set, List.length_map]; omega)⟩
          refine say_diff w hw hlp hq' hlz hz' (.inl ?_)
          rw [elp]
          show ((0 : Int) : Rat) ≠ x
          rcases hx with rfl | rfl <;> decide +kernel
    · exact ⟨m.map zP, ev_iF (ev_andF (by rw [cw, decide_eq_false c1])) (ev_iF (by rw [cw, decide_eq_false c1]) rfl), row_of_zP hmr a0, fun w hw => say_same w hw hl hmr a0⟩
  refine ev_seq hmid ?_
  obtain ⟨δ', e, r6, r7, rfl⟩ := forN_inv (g := tName 6) (b := (fSeq (fSet 7 (fCall (gF 3 F__law_due) (fCons (fVar 6) (fCons (fVar 4) (fCons (fVar 5) fNil)))))
    (fIfS (fOr (fB (f2 (gEq true) (fCall (gF 3 F__law_told) (fCons (fVar 6) (fCons (fCall (gF 1 F_row_of) (fCons (fVar 4) fNil)) (fCons (fCall (gF 1 F_row_of) (fCons (fVar 5) fNil)) fNil)))) (fVar 7))) (fB (f2 (gEq true) (fCall (gF 3 F__law_told) (fCons (fVar 6) (fCons (fCall (gF 1 F_row_of) (fCons (fVar 5) fNil)) (fCons (fCall (gF 1 F_row_of) (fCons (fVar 4) fNil)) fNil)))) (fVar 7)))) (fRet (fC (.bool false))) fNext))) (δ := [.dat (scr ns), .dat (.int way), .dat (.int most), .dat (.int size), .own ((l.map zP).map pD), .own (qs.map pD), .no, .no])
    (fun _ δ => ∃ r6 r7 : Sl, δ = [.dat (scr ns), .dat (.int way), .dat (.int most), .dat (.int size), .own ((l.map zP).map pD), .own (qs.map pD), r6, r7]) (rangeL 0 2) ⟨_, _, rfl⟩
    (by
      rintro i d δ hd ⟨r6, r7, rfl⟩
      obtain ⟨hi, rfl⟩ := range_at hd
      have ex : (0 : Int) + (i : Int) = (i : Int) := by omega
      rw [ex]
      obtain ⟨d, d1, d2, d3, d4, d5, d6⟩ := hsay i (by omega)
      have ne : gEq true (.dat d) (.dat d) = okM (.dat (.bool false)) := gNeD (b := false) rfl rfl d1 d1 (by rw [d2]; rfl)
      refine ⟨_, [.dat (scr ns), .dat (.int way), .dat (.int most), .dat (.int size), .own ((l.map zP).map pD), .own (qs.map pD), .dat (.int (i : Int)), .dat d], rfl, .inl (ev_sset (x := .dat d) (ev_call (ev_cons rfl (ev_cons rfl (ev_cons rfl rfl))) (ev_gF (ds := [.int (i : Int), .list ((l.map zP).map pD), .list (qs.map pD)]) rfl rfl d4 d3)) rfl (by walk_at "ss") ?_), _, _, rfl⟩
      exact ev_iF (ev_orF (ev_fB (ev_f2 (ev_call (ev_cons rfl (ev_cons (ev_call rfl (ev_gF (ds := [.list ((l.map zP).map pD)]) rfl rfl rl (outZ_row _))) (ev_cons (ev_call rfl (ev_gF (ds := [.list (qs.map pD)]) rfl rfl hrow (outZ_row _))) rfl))) (ev_gF (ds := [.int (i : Int), .tuple ((l.map zP).map pD), .tuple (qs.map pD)]) rfl rfl d5 d3)) rfl ne) rfl) (ev_fB (ev_f2 (ev_call (ev_cons rfl (ev_cons (ev_call rfl (ev_gF (ds := [.list (qs.map pD)]) rfl rfl hrow (outZ_row _))) (ev_cons (ev_call rfl (ev_gF (ds := [.list ((l.map zP).map pD)]) rfl rfl rl (outZ_row _))) rfl))) (ev_gF (ds := [.int (i : Int), .tuple (qs.map pD), .tuple ((l.map zP).map pD)]) rfl rfl d6 d3)) rfl ne) rfl)) rfl)
  refine ev_seq (ev_for (ev_rng1 (m := 2) (ev_cons rfl rfl) (by decide) (by decide) (by decide)) e) ?_
  exact ev_ret rfl rfl
end Law

set_option Elab.async false
set_option linter.all false
namespace Law
open PySem PySem.Spec PyProof.Rows L2 L3 D3
theorem al0 {α : Type} {p : α → Prop} : ∀ x ∈ ([] : List α), p x := fun _ h => nomatch h
theorem al1 {α : Type} {p : α → Prop} {a : α} {l : List α} (h : p a) (t : ∀ x ∈ l, p x) : ∀ x ∈ a :: l, p x := fun x hx => (List.mem_cons.mp hx).elim (fun e => e ▸ h) (t x)
abbrev Nk (K : W.Frag) (x : Str) (v : Value) : Prop := W.nsIn K mainGlobals x = some (some v)
abbrev Kk (K : W.Frag) (c d : Value) (b : Bool) : Prop := W.kitOne K c d = some b
abbrev Sk (K : W.Frag) (c d : Value) : Prop := W.subIn K c d = some true
def Xk (K : W.Frag) (C : Addr) (cd : ClassData) : Prop := W.clsIn K C = some cd ∧ W.findIn K (.ref C) "__getattribute__" = some (some (.builtin "BaseException.__getattribute__")) ∧ W.findIn K (.ref C) "__getattr__" = some none ∧ W.findIn K (.ref C) "__class__" = some (some (.builtin "object.__class__")) ∧ Sk K (.ref C) (.type "object") ∧ Sk K (.ref C) (.type "BaseException")
def Bk (K : W.Frag) (C : Addr) (cd : ClassData) : Prop := W.typeIn K (.ref C) = some (.type "type") ∧ W.clsIn K C = some cd ∧ Sk K (.ref C) (.type "BaseException")
abbrev Ek (K : W.Frag) (C : Addr) : Prop := W.excIn K C [.type "ValueError", .type "Exception", .type "BaseException", .type "object"] "ValueError.__new__" = true
theorem xk {K : W.Frag} {C : Addr} {cd : ClassData} (h : Xk K C cd) : ExcK K C := ⟨by rw [h.1]; rfl, h.2.1, h.2.2.1, h.2.2.2.1, h.2.2.2.2.1, h.2.2.2.2.2⟩
theorem ep [Ecx] {K : W.Frag} {m : Ex} {b : Bool} {c : Value} {cd : ClassData} (h : Kk K (.ref (ecx m)) c b) (x : Xk K (ecx m) cd) : W.kitOne K (tgV (Tg.exc m, b).1) c = some (Tg.exc m, b).2 ∧ ∀ n, (Tg.exc m, b).1 = .exc n → ExcK K (ecx n) := ⟨h, fun n e => by cases e; exact xk x⟩
abbrev Ka (K : W.Frag) (c : Value) (d : List Value) (b : Bool) : Prop := W.kitAny K c d = some b
theorem epA [Ecx] {K : W.Frag} {m : Ex} {b : Bool} {c : List Value} {cd : ClassData} (h : Ka K (.ref (ecx m)) c b) (x : Xk K (ecx m) cd) : W.kitAny K (tgV (Tg.exc m, b).1) c = some (Tg.exc m, b).2 ∧ ∀ n, (Tg.exc m, b).1 = .exc n → ExcK K (ecx n) := ⟨h, fun n e => by cases e; exact xk x⟩
theorem bk {K : W.Frag} {C B : Addr} {cd : ClassData} (h : Bk K B cd) (s : Sk K (.ref C) (.ref B)) : CatchK K C B := ⟨h.1, by rw [h.2.1]; rfl, h.2.2, s⟩
theorem raw_mk {K : W.Frag} {mg : Str → Option Value} {h : Heap} (X : K.In h) (G : h.Ns mainGlobals mg) (m_len : mg "len" = none) (m_abs : mg "abs" = none) (m_list : mg "list" = none) (m_tuple : mg "tuple" = none) (m_range : mg "range" = none) (m_sorted : mg "sorted" = none) (m_max : mg "max" = none) (m_all : mg "all" = none) (m_any : mg "any" = none) (m_sum : mg "sum" = none) (m_isinstance : mg "isinstance" = none) (m_ValueError : mg "ValueError" = none) {C_NoPieces C_TooGreat C_NoNumber C_BelowError C_NoCurve C_NoName C_NoNear C_NoRow C_NoStretch C_NoText a_NOUGHT : Addr} {t_MOST_PIECES t_MOST_DEGREE t_MOST_NUMBERS t_NOUGHT u_NOUGHT : Tok} {od_NOUGHT : Option Addr} {m_NOUGHT : Nat} {sl_NOUGHT : Array (Option Value)} {cd_BelowError cd_NoNumber cd_NoPieces cd_TooGreat : ClassData} (k_MOST_PIECES : Nk K "MOST_PIECES" (.int 8 t_MOST_PIECES)) (n_NoPieces : Nk K "NoPieces" (.ref C_NoPieces)) (q_NoPieces : Ek K C_NoPieces) (k_MOST_DEGREE : Nk K "MOST_DEGREE" (.int 6 t_MOST_DEGREE)) (n_TooGreat : Nk K "TooGreat" (.ref C_TooGreat)) (q_TooGreat : Ek K C_TooGreat) (k_MOST_NUMBERS : Nk K "MOST_NUMBERS" (.int 13 t_MOST_NUMBERS)) (n_NoNumber : Nk K "NoNumber" (.ref C_NoNumber)) (q_NoNumber : Ek K C_NoNumber) (k_NOUGHT : Nk K "NOUGHT" (.ref a_NOUGHT)) (l_NOUGHT : K.lookup a_NOUGHT = some ⟨.type "tuple", od_NOUGHT, .seq #[.int 0 t_NOUGHT, .int 1 u_NOUGHT] m_NOUGHT, sl_NOUGHT⟩) (n_BelowError : Nk K "BelowError" (.ref C_BelowError)) (b_BelowError : Bk K C_BelowError cd_BelowError) (s_TooGreat_BelowError : Sk K (.ref C_TooGreat) (.ref C_BelowError)) (s_NoPieces_BelowError : Sk K (.ref C_NoPieces) (.ref C_BelowError)) (s_NoNumber_BelowError : Sk K (.ref C_NoNumber) (.ref C_BelowError)) (ik_TooGreat_0 : Kk K (.ref C_NoNumber) (.ref C_TooGreat) false) (x_NoNumber : Xk K C_NoNumber cd_NoNumber) (ik_TooGreat_1 : Kk K (.ref C_NoPieces) (.ref C_TooGreat) false) (x_NoPieces : Xk K C_NoPieces cd_NoPieces) (ik_TooGreat_2 : Kk K (.ref C_TooGreat) (.ref C_TooGreat) true) (x_TooGreat : Xk K C_TooGreat cd_TooGreat) (ik_NoPieces_0 : Kk K (.ref C_NoNumber) (.ref C_NoPieces) false) (ik_NoPieces_1 : Kk K (.ref C_NoPieces) (.ref C_NoPieces) true) (ik_NoPieces_2 : Kk K (.ref C_TooGreat) (.ref C_NoPieces) false) (ik_ValueError_0 : Kk K (.ref C_NoNumber) (.type "ValueError") true) (ik_ValueError_1 : Kk K (.ref C_NoPieces) (.type "ValueError") true) (ik_ValueError_2 : Kk K (.ref C_TooGreat) (.type "ValueError") true) (n_NoCurve : Nk K "NoCurve" (.ref C_NoCurve)) (n_NoName : Nk K "NoName" (.ref C_NoName)) (n_NoNear : Nk K "NoNear" (.ref C_NoNear)) (n_NoRow : Nk K "NoRow" (.ref C_NoRow)) (n_NoStretch : Nk K "NoStretch" (.ref C_NoStretch)) (n_NoText : Nk K "NoText" (.ref C_NoText)) (ik_NoCurve_NoName_NoNear_NoNumber_NoRow_NoStretch_NoText_0 : Ka K (.ref C_NoNumber) [.ref C_NoCurve, .ref C_NoName, .ref C_NoNear, .ref C_NoNumber, .ref C_NoRow, .ref C_NoStretch, .ref C_NoText] true) (ik_NoCurve_NoName_NoNear_NoNumber_NoRow_NoStretch_NoText_1 : Ka K (.ref C_NoPieces) [.ref C_NoCurve, .ref C_NoName, .ref C_NoNear, .ref C_NoNumber, .ref C_NoRow, .ref C_NoStretch, .ref C_NoText] false) (ik_NoCurve_NoName_NoNear_NoNumber_NoRow_NoStretch_NoText_2 : Ka K (.ref C_TooGreat) [.ref C_NoCurve, .ref C_NoName, .ref C_NoNear, .ref C_NoNumber, .ref C_NoRow, .ref C_NoStretch, .ref C_NoText] false) : ∃ I : Ecx, @Facts I K mg := by
  letI I : Ecx := ⟨fun e => match e with | .NoPieces => C_NoPieces | .TooGreat => C_TooGreat | .NoNumber => C_NoNumber | .BelowError => C_BelowError | .NoCurve => C_NoCurve | .NoName => C_NoName | .NoNear => C_NoNear | .NoRow => C_NoRow | .NoStretch => C_NoStretch | .NoText => C_NoText | _ => 0⟩
  exact ⟨I, Facts.mk m_len m_abs m_list m_tuple m_range m_sorted m_max (hasC_int (W.mg_of X G k_MOST_PIECES)) (W.mg_of X G n_NoPieces) q_NoPieces m_all (hasC_int (W.mg_of X G k_MOST_DEGREE)) m_any (W.mg_of X G n_TooGreat) q_TooGreat (hasC_int (W.mg_of X G k_MOST_NUMBERS)) (W.mg_of X G n_NoNumber) q_NoNumber (hasC_pair (W.mg_of X G k_NOUGHT) l_NOUGHT) (W.mg_of X G n_BelowError) (catch_of (al1 (bk b_BelowError s_NoNumber_BelowError) (al1 (bk b_BelowError s_NoPieces_BelowError) (al1 (bk b_BelowError s_TooGreat_BelowError) al0)))) m_sum m_isinstance (isK_of rfl (al1 (ep ik_TooGreat_0 x_NoNumber) (al1 (ep ik_TooGreat_1 x_NoPieces) (al1 (ep ik_TooGreat_2 x_TooGreat) al0)))) (isK_of rfl (al1 (ep ik_NoPieces_0 x_NoNumber) (al1 (ep ik_NoPieces_1 x_NoPieces) (al1 (ep ik_NoPieces_2 x_TooGreat) al0)))) m_ValueError (isK_of rfl (al1 (ep ik_ValueError_0 x_NoNumber) (al1 (ep ik_ValueError_1 x_NoPieces) (al1 (ep ik_ValueError_2 x_TooGreat) al0)))) (W.mg_of X G n_NoCurve) (W.mg_of X G n_NoName) (W.mg_of X G n_NoNear) (W.mg_of X G n_NoRow) (W.mg_of X G n_NoStretch) (W.mg_of X G n_NoText) (isKs_of (al1 rfl (al1 rfl (al1 rfl (al1 rfl (al1 rfl (al1 rfl (al1 rfl al0))))))) (al1 (epA ik_NoCurve_NoName_NoNear_NoNumber_NoRow_NoStretch_NoText_0 x_NoNumber) (al1 (epA ik_NoCurve_NoName_NoNear_NoNumber_NoRow_NoStretch_NoText_1 x_NoPieces) (al1 (epA ik_NoCurve_NoName_NoNear_NoNumber_NoRow_NoStretch_NoText_2 x_TooGreat) al0))))⟩
end Law
def PySem.W.Fast.tw8328841958515726188 : Unit := ()
def PySem.W.Fast.tw7269085062819729862 : Unit := ()
def PySem.W.Fast.tw8896421257894815002 : Unit := ()
def PySem.W.Fast.tw2904499821799072039 : Unit := ()
def PySem.W.Fast.tw13117842498644234408 : Unit := ()
def PySem.W.Fast.tw3616696594354309372 : Unit := ()
def PySem.W.Fast.tw641206914559089496 : Unit := ()
def PySem.W.Fast.tw2905005625930716810 : Unit := ()
def PySem.W.Fast.tw7261444167735643757 : Unit := ()
def PySem.W.Fast.tw11822165365344050062 : Unit := ()
def PySem.W.Fast.tw12839155373955016682 : Unit := ()
def PySem.W.Fast.tw4918715057787585760 : Unit := ()
def PySem.W.Fast.tw7047978191684034869 : Unit := ()
def PySem.W.Fast.tw14581643154359409461 : Unit := ()
def PySem.W.Fast.tw8544294916131456872 : Unit := ()
def PySem.W.Fast.tw7881712691179872160 : Unit := ()
def PySem.W.Fast.tw1662998619244362879 : Unit := ()
def PySem.W.Fast.tw4387876910873880118 : Unit := ()
def PySem.W.Fast.tw2555377688323528912 : Unit := ()
def PySem.W.Fast.tw13236869997928714099 : Unit := ()
def PySem.W.Fast.tw3363810195192365575 : Unit := ()
def PySem.W.Fast.tw16412505497380649783 : Unit := ()
def PySem.W.Fast.tw15817540929668267652 : Unit := ()
def PySem.W.Fast.tw11349224911324761234 : Unit := ()
def PySem.W.Fast.tw6917974158734156864 : Unit := ()
def PySem.W.Fast.tw6857520432158307924 : Unit := ()
def PySem.W.Fast.tw15748394836319172482 : Unit := ()
def PySem.W.Fast.tw13450236347132647242 : Unit := ()
def PySem.W.Fast.tw1903181178269792175 : Unit := ()
def PySem.W.Fast.tw10636736256454089941 : Unit := ()
def PySem.W.Fast.tw5568265221017216057 : Unit := ()
def PySem.W.Fast.tw5543786429870344525 : Unit := ()
def PySem.W.Fast.tw8622072781488807726 : Unit := ()
def PySem.W.Fast.tw4421901482980657997 : Unit := ()
def PySem.W.Fast.tw10918565375713498899 : Unit := ()
def PySem.W.Fast.tw14614799480133561185 : Unit := ()
def PySem.W.Fast.tw13614638986924558600 : Unit := ()
def PySem.W.Fast.tw8925227056280956022 : Unit := ()
def PySem.W.Fast.tw16906929803049511826 : Unit := ()
def PySem.W.Fast.tw14059541546913934675 : Unit := ()
def PySem.W.Fast.tw2510677386671343955 : Unit := ()
def PySem.W.Fast.tw3329817982870533136 : Unit := ()
def PySem.W.Fast.tw5518716893578071647 : Unit := ()
def PySem.W.Fast.tw15626240500474648802 : Unit := ()
def PySem.W.Fast.tw17259864901673354673 : Unit := ()
def PySem.W.Fast.tw5351881518604328033 : Unit := ()
def PySem.W.Fast.tw5125078306777515917 : Unit := ()
def PySem.W.Fast.tw16318375597869083442 : Unit := ()
def PySem.W.Fast.tw14476120519332409827 : Unit := ()
def PySem.W.Fast.tw4831600350196579527 : Unit := ()
def PySem.W.Fast.tw12012468160390997415 : Unit := ()
def PySem.W.Fast.tw4714802713090453505 : Unit := ()
def PySem.W.Fast.tw14688221475169215153 : Unit := ()
def PySem.W.Fast.tw12577500348541618790 : Unit := ()
def PySem.W.Fast.tw11130042632200637281 : Unit := ()
def PySem.W.Fast.tw8495592021351979290 : Unit := ()
def PySem.W.Fast.tw3734505439543884649 : Unit := ()
def PySem.W.Fast.tw3820140697338885779 : Unit := ()
def PySem.W.Fast.tw17408539459691347099 : Unit := ()
def PySem.W.Fast.tw5810001071633783340 : Unit := ()
def PySem.W.Fast.tw13388266557601323651 : Unit := ()
def PySem.W.Fast.tw6451416264148846233 : Unit := ()
def PySem.W.Fast.tw8164607631729448001 : Unit := ()
open PySem PySem.W PyProof.Rows L2 L3 D3 Law
local macro_rules | `(tactic| walk_at "k") => `(tactic| (show _ = _; k_is))
local macro_rules | `(tactic| walk_at "x") => `(tactic| exact ⟨by k_is, by k_is, by k_is, by k_is, by walk_at "k", by walk_at "k"⟩)
local macro_rules | `(tactic| walk_at "b") => `(tactic| exact ⟨by k_is, by k_is, by walk_at "k"⟩)
local macro_rules | `(tactic| walk_at "e") => `(tactic| (show _ = _; k_exc))
local macro_rules | `(tactic| walk_at "y") => `(tactic| (show _ = _; kit_is))
local macro_rules | `(tactic| walk_at "d") => `(tactic| (dsimp only [L2.KOf]; refine' L3.hasDef_mk ?a ?l ?c ?k; (case a => k_is); (case l => k_is); (case c => k_is); (case k => k_is)))
local macro_rules | `(tactic| walk_at "1") => `(tactic| exact fun _ _ _ _ _ _ us hl => match us, hl with | [_], _ => rfl)
local macro_rules | `(tactic| walk_at "2") => `(tactic| exact fun _ _ _ _ _ _ us hl => match us, hl with | [_, _], _ => rfl)
local macro_rules | `(tactic| walk_at "3") => `(tactic| exact fun _ _ _ _ _ _ us hl => match us, hl with | [_, _, _], _ => rfl)
local macro_rules | `(tactic| walk_at "4") => `(tactic| exact fun _ _ _ _ _ _ us hl => match us, hl with | [_, _, _, _], _ => rfl)
abbrev PG := PySem.Challenge.rw_neverbelow_k52_rows_put_together.prog
set_option maxRecDepth 100000 in
set_option maxHeartbeats 0 in
theorem PySem.Challenge.cw_neverbelow_k52_rows_put_together_holds : PySem.Challenge.rw_neverbelow_k52_rows_put_together.Holds := by
  w_on; o_law; k_head; (case hw => w_witness2)
  k_fill
  refine L3.walkL (l := PySem.Challenge.rw_neverbelow_k52_rows_put_together) rfl rfl (fun w h Y => PySem.W.kIn_of Y) ?F
  case F =>
    intro w mg fa h KX G hmg
    have D__law_cell_at : L3.HasDef (KOf KX) "_law_cell_at" s__law_cell_at := by walk_at "d"
    have D__law_num : L3.HasDef (KOf KX) "_law_num" s__law_num := by walk_at "d"
    have D__law_clean : L3.HasDef (KOf KX) "_law_clean" s__law_clean := by walk_at "d"
    have D__law_row : L3.HasDef (KOf KX) "_law_row" s__law_row := by walk_at "d"
    have D__law_plus : L3.HasDef (KOf KX) "_law_plus" s__law_plus := by walk_at "d"
    have D__law_sum : L3.HasDef (KOf KX) "_law_sum" s__law_sum := by walk_at "d"
    have D__law_times : L3.HasDef (KOf KX) "_law_times" s__law_times := by walk_at "d"
    have D__law_product : L3.HasDef (KOf KX) "_law_product" s__law_product := by walk_at "d"
    have D__law_less : L3.HasDef (KOf KX) "_law_less" s__law_less := by walk_at "d"
    have D__law_curve_at : L3.HasDef (KOf KX) "_law_curve_at" s__law_curve_at := by walk_at "d"
    have D__law_due : L3.HasDef (KOf KX) "_law_due" s__law_due := by walk_at "d"
    have D_less : L3.HasDef (KOf KX) "less" s_less := by walk_at "d"
    have D_check_pieces : L3.HasDef (KOf KX) "check_pieces" s_check_pieces := by walk_at "d"
    have D_row_of : L3.HasDef (KOf KX) "row_of" s_row_of := by walk_at "d"
    have D_sign : L3.HasDef (KOf KX) "sign" s_sign := by walk_at "d"
    have D_curve_of : L3.HasDef (KOf KX) "curve_of" s_curve_of := by walk_at "d"
    have D_greatest_divisor : L3.HasDef (KOf KX) "greatest_divisor" s_greatest_divisor := by walk_at "d"
    have D_number : L3.HasDef (KOf KX) "number" s_number := by walk_at "d"
    have D_plus : L3.HasDef (KOf KX) "plus" s_plus := by walk_at "d"
    have D_number_at : L3.HasDef (KOf KX) "number_at" s_number_at := by walk_at "d"
    have D_added : L3.HasDef (KOf KX) "added" s_added := by walk_at "d"
    have D_overlaid : L3.HasDef (KOf KX) "overlaid" s_overlaid := by walk_at "d"
    have D_rows_added : L3.HasDef (KOf KX) "rows_added" s_rows_added := by walk_at "d"
    have D_times : L3.HasDef (KOf KX) "times" s_times := by walk_at "d"
    have D_multiplied : L3.HasDef (KOf KX) "multiplied" s_multiplied := by walk_at "d"
    have D_rows_multiplied : L3.HasDef (KOf KX) "rows_multiplied" s_rows_multiplied := by walk_at "d"
    have D__law_told : L3.HasDef (KOf KX) "_law_told" s__law_told := by walk_at "d"
    have D_law : L3.HasDef (KOf KX) "law" s_law := by walk_at "d"
    have m_len := mg_none_of (n := "len") KX G (by k_is)
    have m_abs := mg_none_of (n := "abs") KX G (by k_is)
    have m_list := mg_none_of (n := "list") KX G (by k_is)
    have m_tuple := mg_none_of (n := "tuple") KX G (by k_is)
    have m_range := mg_none_of (n := "range") KX G (by k_is)
    have m_sorted := mg_none_of (n := "sorted") KX G (by k_is)
    have m_max := mg_none_of (n := "max") KX G (by k_is)
    have m_all := mg_none_of (n := "all") KX G (by k_is)
    have m_any := mg_none_of (n := "any") KX G (by k_is)
    have m_sum := mg_none_of (n := "sum") KX G (by k_is)
    have m_isinstance := mg_none_of (n := "isinstance") KX G (by k_is)
    have m_ValueError := mg_none_of (n := "ValueError") KX G (by k_is)
    have rw_ : ∃ I : Ecx, @Law.Facts I (KOf KX) mg := by
      refine' Law.raw_mk KX G m_len m_abs m_list m_tuple m_range m_sorted m_max m_all m_any m_sum m_isinstance m_ValueError ?k_MOST_PIECES ?n_NoPieces ?q_NoPieces ?k_MOST_DEGREE ?n_TooGreat ?q_TooGreat ?k_MOST_NUMBERS ?n_NoNumber ?q_NoNumber ?k_NOUGHT ?l_NOUGHT ?n_BelowError ?b_BelowError ?s_TooGreat_BelowError ?s_NoPieces_BelowError ?s_NoNumber_BelowError ?ik_TooGreat_0 ?x_NoNumber ?ik_TooGreat_1 ?x_NoPieces ?ik_TooGreat_2 ?x_TooGreat ?ik_NoPieces_0 ?ik_NoPieces_1 ?ik_NoPieces_2 ?ik_ValueError_0 ?ik_ValueError_1 ?ik_ValueError_2 ?n_NoCurve ?n_NoName ?n_NoNear ?n_NoRow ?n_NoStretch ?n_NoText ?ik_NoCurve_NoName_NoNear_NoNumber_NoRow_NoStretch_NoText_0 ?ik_NoCurve_NoName_NoNear_NoNumber_NoRow_NoStretch_NoText_1 ?ik_NoCurve_NoName_NoNear_NoNumber_NoRow_NoStretch_NoText_2
      all_goals try dsimp only [L2.KOf]
      (case k_MOST_PIECES => walk_at "k")
      (case n_NoPieces => walk_at "k")
      (case q_NoPieces => walk_at "e")
      (case k_MOST_DEGREE => walk_at "k")
      (case n_TooGreat => walk_at "k")
      (case q_TooGreat => walk_at "e")
      (case k_MOST_NUMBERS => walk_at "k")
      (case n_NoNumber => walk_at "k")
      (case q_NoNumber => walk_at "e")
      (case k_NOUGHT => walk_at "k")
      (case l_NOUGHT => walk_at "k")
      (case n_BelowError => walk_at "k")
      (case b_BelowError => walk_at "b")
      (case s_TooGreat_BelowError => walk_at "k")
      (case s_NoPieces_BelowError => walk_at "k")
      (case s_NoNumber_BelowError => walk_at "k")
      (case ik_TooGreat_0 => walk_at "y")
      (case x_NoNumber => walk_at "x")
      (case ik_TooGreat_1 => walk_at "y")
      (case x_NoPieces => walk_at "x")
      (case ik_TooGreat_2 => walk_at "y")
      (case x_TooGreat => walk_at "x")
      (case ik_NoPieces_0 => walk_at "y")
      (case ik_NoPieces_1 => walk_at "y")
      (case ik_NoPieces_2 => walk_at "y")
      (case ik_ValueError_0 => walk_at "y")
      (case ik_ValueError_1 => walk_at "y")
      (case ik_ValueError_2 => walk_at "y")
      (case n_NoCurve => walk_at "k")
      (case n_NoName => walk_at "k")
      (case n_NoNear => walk_at "k")
      (case n_NoRow => walk_at "k")
      (case n_NoStretch => walk_at "k")
      (case n_NoText => walk_at "k")
      (case ik_NoCurve_NoName_NoNear_NoNumber_NoRow_NoStretch_NoText_0 => walk_at "y")
      (case ik_NoCurve_NoName_NoNear_NoNumber_NoRow_NoStretch_NoText_1 => walk_at "y")
      (case ik_NoCurve_NoName_NoNear_NoNumber_NoRow_NoStretch_NoText_2 => walk_at "y")
    obtain ⟨I, A⟩ := rw_
    refine L3.law_of KX G hmg D_law (fun _ _ _ _ _ _ _ => rfl) (fun base kb nb f fd F => ?_)
    have C__law_cell_at := L3.cal_of (P := PG) (w := w) (base := base) KX G D__law_cell_at (ps := ["_law_script", "_law_k"]) (by walk_at "2") (fun f fd F => @ok__law_cell_at I _ w _ _ base f fd A F)
    have C__law_num := L3.cal_of (P := PG) (w := w) (base := base) KX G D__law_num (ps := ["_law_top", "_law_bottom"]) (by walk_at "2") (fun f fd F => @ok__law_num I _ w _ _ base f fd A F)
    have C__law_clean := L3.cal_of (P := PG) (w := w) (base := base) KX G D__law_clean (ps := ["_law_numbers"]) (by walk_at "1") (fun f fd F => @ok__law_clean I _ w _ _ base f fd A F)
    have C__law_row := L3.cal_of (P := PG) (w := w) (base := base) KX G D__law_row (ps := ["_law_script", "_law_at", "_law_most", "_law_size"]) (by walk_at "4") (fun f fd F => @ok__law_row I _ w _ _ base f fd A C__law_cell_at C__law_num C__law_clean F)
    have C__law_plus := L3.cal_of (P := PG) (w := w) (base := base) KX G D__law_plus (ps := ["_law_one", "_law_other"]) (by walk_at "2") (fun f fd F => @ok__law_plus I _ w _ _ base f fd A C__law_num F)
    have C__law_sum := L3.cal_of (P := PG) (w := w) (base := base) KX G D__law_sum (ps := ["_law_one", "_law_other"]) (by walk_at "2") (fun f fd F => @ok__law_sum I _ w _ _ base f fd A C__law_clean C__law_plus F)
    have C__law_times := L3.cal_of (P := PG) (w := w) (base := base) KX G D__law_times (ps := ["_law_one", "_law_other"]) (by walk_at "2") (fun f fd F => @ok__law_times I _ w _ _ base f fd A C__law_num F)
    have C__law_product := L3.cal_of (P := PG) (w := w) (base := base) KX G D__law_product (ps := ["_law_one", "_law_other"]) (by walk_at "2") (fun f fd F => @ok__law_product I _ w _ _ base f fd A C__law_clean C__law_plus C__law_times F)
    have C__law_less := L3.cal_of (P := PG) (w := w) (base := base) KX G D__law_less (ps := ["_law_one", "_law_other"]) (by walk_at "2") (fun f fd F => @ok__law_less I _ w _ _ base f fd A F)
    have C__law_curve_at := L3.cal_of (P := PG) (w := w) (base := base) KX G D__law_curve_at (ps := ["_law_pieces", "_law_x"]) (by walk_at "2") (fun f fd F => @ok__law_curve_at I _ w _ _ base f fd A C__law_less F)
    have C__law_due := L3.cal_of (P := PG) (w := w) (base := base) KX G D__law_due (ps := ["_law_way", "_law_one", "_law_other"]) (by walk_at "3") (fun f fd F => @ok__law_due I _ w _ _ base f fd A C__law_sum C__law_product C__law_curve_at F)
    have C_less := L3.cal_of (P := PG) (w := w) (base := base) KX G D_less (ps := ["one", "other"]) (by walk_at "2") (fun f fd F => @ok_less I _ w _ _ base f fd A F)
    have C_check_pieces := L3.cal_of (P := PG) (w := w) (base := base) KX G D_check_pieces (ps := ["pieces"]) (by walk_at "1") (fun f fd F => @ok_check_pieces I _ w _ _ base f fd A C_less F)
    have C_row_of := L3.cal_of (P := PG) (w := w) (base := base) KX G D_row_of (ps := ["pieces"]) (by walk_at "1") (fun f fd F => @ok_row_of I _ w _ _ base f fd A C_check_pieces F)
    have C_sign := L3.cal_of (P := PG) (w := w) (base := base) KX G D_sign (ps := ["one"]) (by walk_at "1") (fun f fd F => @ok_sign I _ w _ _ base f fd A F)
    have C_curve_of := L3.cal_of (P := PG) (w := w) (base := base) KX G D_curve_of (ps := ["numbers"]) (by walk_at "1") (fun f fd F => @ok_curve_of I _ w _ _ base f fd A C_sign F)
    have C_greatest_divisor := L3.cal_of (P := PG) (w := w) (base := base) KX G D_greatest_divisor (ps := ["one", "other"]) (by walk_at "2") (fun f fd F => @ok_greatest_divisor I _ w _ _ base f fd A F)
    have C_number := L3.cal_of (P := PG) (w := w) (base := base) KX G D_number (ps := ["top", "bottom"]) (by walk_at "2") (fun f fd F => @ok_number I _ w _ _ base f fd A C_greatest_divisor F)
    have C_plus := L3.cal_of (P := PG) (w := w) (base := base) KX G D_plus (ps := ["one", "other"]) (by walk_at "2") (fun f fd F => @ok_plus I _ w _ _ base f fd A C_number F)
    have C_number_at := L3.cal_of (P := PG) (w := w) (base := base) KX G D_number_at (ps := ["curve", "place"]) (by walk_at "2") (fun f fd F => @ok_number_at I _ w _ _ base f fd A F)
    have C_added := L3.cal_of (P := PG) (w := w) (base := base) KX G D_added (ps := ["one", "other"]) (by walk_at "2") (fun f fd F => @ok_added I _ w _ _ base f fd A C_curve_of C_plus C_number_at F)
    have C_overlaid := L3.cal_of (P := PG) (w := w) (base := base) KX G D_overlaid (ps := ["one", "other"]) (by walk_at "2") (fun f fd F => @ok_overlaid I _ w _ _ base f fd A C_less F)
    have C_rows_added := L3.cal_of (P := PG) (w := w) (base := base) KX G D_rows_added (ps := ["one", "other"]) (by walk_at "2") (fun f fd F => @ok_rows_added I _ w _ _ base f fd A C_row_of C_added C_overlaid F)
    have C_times := L3.cal_of (P := PG) (w := w) (base := base) KX G D_times (ps := ["one", "other"]) (by walk_at "2") (fun f fd F => @ok_times I _ w _ _ base f fd A C_number F)
    have C_multiplied := L3.cal_of (P := PG) (w := w) (base := base) KX G D_multiplied (ps := ["one", "other"]) (by walk_at "2") (fun f fd F => @ok_multiplied I _ w _ _ base f fd A C_curve_of C_times C_plus F)
    have C_rows_multiplied := L3.cal_of (P := PG) (w := w) (base := base) KX G D_rows_multiplied (ps := ["one", "other"]) (by walk_at "2") (fun f fd F => @ok_rows_multiplied I _ w _ _ base f fd A C_row_of C_multiplied C_overlaid F)
    have C__law_told := L3.cal_of (P := PG) (w := w) (base := base) KX G D__law_told (ps := ["_law_way", "_law_one", "_law_other"]) (by walk_at "3") (fun f fd F => @ok__law_told I _ w _ _ base f fd A C_rows_added C_rows_multiplied F)
    exact @law_conv I _ _ _ _ _ _ _ _ _ (@ok_law I _ w _ _ base f fd A C__law_row C__law_cell_at C__law_due C__law_told C_row_of F) (by decide) Law.pure_law
