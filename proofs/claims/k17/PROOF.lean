import PyProof.Rows.All
import Wide.All
import OpenK.AllK
import Wide.FinOn
import Lean
import PyProof.EqAt
import PyProof.EqKinds
import PyProof.TupleCall
import PySem.Challenge.RW_neverbelow_k17_signs_of_mixing
set_option Elab.async false
set_option linter.all false
set_option maxRecDepth 100000
/-! THE HAND LAYER, for ints, bools, texts, own classes, LISTS and tuples (index, slices, in, append, pop ..), calls, loops. Paste it whole ahead of your own text; what your proof does not reach may be deleted. -/
namespace L2
open PySem PySem.Spec PyProof.Rows

/-- a key: an int or a str -/
abbrev Key := Sum Int Str
def keyIs : Key → Value → Bool
  | .inl k, v => Value.isInt k v
  | .inr x, v => Value.isStrOf x v
def keyH (w : World) : Key → Int
  | .inl k => hashInt k
  | .inr x => hashStr w x
theorem keyIs_shape : ∀ {k : Key} {v : Value}, keyIs k v = true → (∃ i t, k = Sum.inl i ∧ v = Value.int i t) ∨ (∃ x t, k = Sum.inr x ∧ v = Value.str x t)
  | .inl i, v, h => by
    obtain ⟨t, e⟩ := Value.isInt_shape (k := i) (v := v) h
    exact .inl ⟨i, t, rfl, e⟩
  | .inr x, v, h => by
    obtain ⟨t, e⟩ := Value.isStrOf_shape (x := x) (v := v) h
    exact .inr ⟨x, t, rfl, e⟩
theorem key_ll (a b : Int) : decide ((Sum.inl a : Key) = Sum.inl b) = (a == b) := by
  by_cases e : a = b
  · subst e; simp
  · have h : ¬ (Sum.inl a : Key) = Sum.inl b := fun q => e (Sum.inl.inj q)
    rw [decide_eq_false h]
    exact (beq_eq_false_iff_ne.mpr e).symm
theorem key_rr (a b : Str) : decide ((Sum.inr a : Key) = Sum.inr b) = decide (a = b) := by
  by_cases e : a = b
  · subst e; simp
  · have h : ¬ (Sum.inr a : Key) = Sum.inr b := fun q => e (Sum.inr.inj q)
    rw [decide_eq_false h, decide_eq_false e]
theorem key_lr (a : Int) (b : Str) : decide ((Sum.inl a : Key) = Sum.inr b) = false := decide_eq_false (fun q => nomatch q)
theorem key_rl (a : Str) (b : Int) : decide ((Sum.inr a : Key) = Sum.inl b) = false := decide_eq_false (fun q => nomatch q)

def mixKind (prog : Program) (w : World) : PySem.KeyKind prog w Key where
  is := keyIs
  hash := keyH w
  inj := fun v a b ha hb => by
    rcases keyIs_shape ha with ⟨i, t, rfl, rfl⟩ | ⟨x, t, rfl, rfl⟩
    · rcases keyIs_shape hb with ⟨j, u, rfl, e⟩ | ⟨y, u, rfl, e⟩
      · injection e with e1 _; rw [e1]
      · exact nomatch e
    · rcases keyIs_shape hb with ⟨j, u, rfl, e⟩ | ⟨y, u, rfl, e⟩
      · exact nomatch e
      · injection e with e1 _; rw [e1]
  byValue := fun k v h => by
    rcases keyIs_shape h with ⟨i, t, rfl, rfl⟩ | ⟨x, t, rfl, rfl⟩ <;> rfl
  pyHash := fun hv h => by
    rcases keyIs_shape hv with ⟨i, t, rfl, rfl⟩ | ⟨x, t, rfl, rfl⟩
    · exact wpAny_pyHash_int h
    · exact wpAny_pyHash_str h
  eqBool := fun hu hv h => by
    rcases keyIs_shape hu with ⟨i, t, rfl, rfl⟩ | ⟨x, t, rfl, rfl⟩
    · rcases keyIs_shape hv with ⟨j, u, rfl, rfl⟩ | ⟨y, u, rfl, rfl⟩
      · rw [key_ll] at h; exact wpAny_eqBool_int h
      · rw [key_lr] at h; exact SeqAt.EqAt.int_str i t y u _ _ _ _ h
    · rcases keyIs_shape hv with ⟨j, u, rfl, rfl⟩ | ⟨y, u, rfl, rfl⟩
      · rw [key_rl] at h; exact SeqAt.EqAt.str_int x t j u _ _ _ _ h
      · rw [key_rr] at h; exact wpAny_eqBool_str h
  «strs» := fun k x t v h => by
    rcases keyIs_shape h with ⟨i, u, rfl, e⟩ | ⟨y, u, rfl, e⟩
    · exact nomatch e
    · injection e with e1 _
      subst e1
      cases v <;> rfl

end L2

namespace L2
open PySem PySem.Spec PyProof.Rows

/-- a value, without the heap -/
inductive V where
  | non | bl (b : Bool) | int (i : Int) | str (x : Str) | byt (b : Array UInt8) | flt (b : UInt64) | ref (a : Addr) | ty (n : String)
  deriving DecidableEq

def RelV : V → Value → Prop
  | .non, u => u = Value.none
  | .bl b, u => u = Value.bool b
  | .int i, u => ∃ t, u = Value.int i t
  | .str x, u => ∃ t, u = Value.str x t
  | .byt b, u => ∃ t, u = Value.bytes b t
  | .flt b, u => ∃ t, u = Value.float b t
  | .ref a, u => u = Value.ref a
  | .ty n, u => u = Value.type n

abbrev Vals : List V → List Value → Prop := Paired RelV
theorem Vals.length {xs : List V} {us : List Value} (r : Vals xs us) : xs.length = us.length := Paired.length r
theorem Vals.get : ∀ {xs : List V} {us : List Value} {i : Nat} {x : V}, Vals xs us → xs[i]? = some x → ∃ u, us[i]? = some u ∧ RelV x u
  | _, _, _, _, .nil, e => by simp at e
  | _, _, 0, _, .cons r _, e => by simp at e; subst e; exact ⟨_, rfl, r⟩
  | _, _, i + 1, x, .cons _ t, e => by
    obtain ⟨u, h1, h2⟩ := Vals.get (i := i) (x := x) t (by simpa using e)
    exact ⟨u, by simpa using h1, h2⟩
theorem Vals.set {x : V} {u : Value} (r : RelV x u) : ∀ {xs : List V} {us : List Value} (i : Nat), Vals xs us → Vals (xs.set i x) (us.set i u)
  | _, _, _, .nil => .nil
  | _, _, 0, .cons _ t => .cons r t
  | _, _, i + 1, .cons q t => .cons q (Vals.set r i t)
theorem Vals.append : ∀ {xs ys : List V} {us ws : List Value}, Vals xs us → Vals ys ws → Vals (xs ++ ys) (us ++ ws)
  | _, _, _, _, .nil, s => s
  | _, _, _, _, .cons r t, s => .cons r (Vals.append t s)
theorem Vals.take : ∀ {xs : List V} {us : List Value} (n : Nat), Vals xs us → Vals (xs.take n) (us.take n)
  | _, _, 0, _ => .nil
  | _, _, _ + 1, .nil => .nil
  | _, _, n + 1, .cons r t => .cons r (Vals.take n t)
theorem Vals.drop : ∀ {xs : List V} {us : List Value} (n : Nat), Vals xs us → Vals (xs.drop n) (us.drop n)
  | _, _, 0, r => r
  | _, _, _ + 1, .nil => .nil
  | _, _, n + 1, .cons _ t => Vals.drop n t
theorem Vals.none_of : ∀ {xs : List V} {us : List Value} {i : Nat}, Vals xs us → xs[i]? = none → us[i]? = none := fun {xs us i} r e => by
  have h1 := r.length
  have h2 : xs.length ≤ i := List.getElem?_eq_none_iff.mp e
  exact List.getElem?_eq_none_iff.mpr (by omega)

def RelO : Option V → Option Value → Prop
  | some v, some u => RelV v u
  | none, none => True
  | _, _ => False
def KV {κ : Type} : List (κ × V) → List (κ × Value) → Prop := Paired fun (p : κ × V) (q : κ × Value) => p.1 = q.1 ∧ RelV p.2 q.2

/-- a key of a dict (00_mix): an int or a text -/
def kV : Key → V
  | .inl i => .int i
  | .inr x => .str x

/-- what stands at a tracked address -/
inductive HO where
  /-- a list -/
  | lst (xs : List V)
  /-- a tuple (never changes) -/
  | tup (xs : List V)
  /-- a dict whose keys are ints and texts; one whose keys are tuples of ints and texts (the empty one is both) -/
  | dK (kvs : List (Key × V)) | dT (kvs : List (List Key × V))
  /-- a set of ints: its members, its size -/
  | set (S : Int → Bool) (n : Nat)
  /-- an instance of the class at C, its dict at dx, its attributes -/
  | ins (C dx : Addr) (fs : List (Str × V))
  /-- the dict of the instance at x -/
  | own (x : Addr)
  /-- the dict of an exception -/
  | xd (fs : List (Str × V))
  /-- a bound method, f of x -/
  | met (f x : Addr)
  /-- a range object lo, lo + 1, .. below hi -/
  | rng (lo hi : Int)
  /-- a thing that is known to the object (the script; a dict while a loop walks it): read, never written while it is so -/
  | frz (o : Obj) (u : HO)
  /-- a code object's table -/
  | tbl (ps : Array Value)
  /-- any other thing, by what is true of its one object (a def of one's own: SetO a S n := HO.ext fun h => ..) -/
  | ext (φ : Heap → Prop)

abbrev Hp := Addr → Option HO
def upd (H : Hp) (a : Addr) (o : HO) : Hp := fun b => if b = a then some o else H b
theorem upd_same {H : Hp} {a : Addr} {o : HO} : upd H a o a = some o := by unfold upd; rw [if_pos rfl]
theorem upd_ne {H : Hp} {a b : Addr} {o : HO} (h : b ≠ a) : upd H a o b = H b := by unfold upd; rw [if_neg h]
/-- two objects of different content stand apart -/
theorem ne_of {H : Hp} {a b : Addr} {o u : HO} (h : H a = some o) (h' : H b = some u) (d : o ≠ u) : a ≠ b := by
  intro e; subst e; rw [h] at h'; exact d (Option.some.inj h')
theorem ne_of_none {H : Hp} {a b : Addr} {o : HO} (h : H a = some o) (h' : H b = none) : a ≠ b := by
  intro e; subst e; rw [h] at h'; cases h'

section
variable (P : Program) (w : World)
def ObjOk (H : Hp) (h : Heap) (a : Addr) : HO → Prop
  | .lst xs => xs.length ≤ sizeLine ∧ ∃ (its : List Value) (n : Nat), Vals xs its ∧ h.get? a = some { cls := .type "list", data := .seq its.toArray n }
  | .tup xs => xs.length ≤ sizeLine ∧ ∃ its : List Value, Vals xs its ∧ IsTup h a its.toArray
  | .dK kvs => kvs.length ≤ sizeLine ∧ (a == sysModules) = false ∧ ∃ vs, KV kvs vs ∧ h.DictOf (mixKind P w) a vs
  | .dT kvs => kvs.length ≤ sizeLine ∧ (a == sysModules) = false ∧ ∃ xs : List (List Key × Addr × Value),
      Paired (fun (p : List Key × V) (q : List Key × Addr × Value) => p.1 = q.1 ∧ H q.2.1 = some (.tup (p.1.map kV)) ∧ RelV p.2 q.2.2) kvs xs ∧
      ∃ o es ep, h.get? a = some o ∧ o.ExactDict ∧ o.data = .dict es ep ∧ es.toList = xs.map (entryOfKey (tupleKind (mixKind P w))) ∧ (xs.map (·.1)).Nodup
  | .set S n => h.SetOf (intKind P w) a S n
  | .ins C dx fs => H dx = some (.own a) ∧ fs.length ≤ 1000 ∧ dx ≠ a ∧ h.get? a = some (PySem.W.instObj C dx) ∧
      ∃ mA, h.Ns1 dx mA ∧ (∀ f, RelO (fs.lookup f) (mA f)) ∧ PySem.Within mA (fs.map (·.1))
  | .own _ => ∃ o, h.get? a = some o
  | .xd fs => ∃ mA, h.Ns1 a mA ∧ ∀ f, RelO (fs.lookup f) (mA f)
  | .rng lo hi => ∃ t u v, h.get? a = some { cls := .type "range", data := .fields #[.int lo t, .int hi u, .int 1 v] }
  | .frz o u => h.get? a = some o ∧ ObjOk H h a u
  | .tbl ps => h.get? a = some { cls := .none, data := .fields ps }
  | .met f x => h.get? a = some (PySem.W.methodObj (.ref f) (.ref x))
  | .ext φ => φ h ∧ (∃ o, h.get? a = some o) ∧ ∀ h1 h2 : Heap, φ h1 → (∀ o, h1.get? a = some o → h2.get? a = some o) → φ h2
/-- the abstract heap is held -/
def HOk (H : Hp) (h : Heap) : Prop := ∀ a o, H a = some o → ObjOk P w H h a o
end

section
variable {P : Program} {w : World} {H H' : Hp} {h h' : Heap} {a : Addr} {o : HO}
theorem ObjOk.lt (x : ObjOk P w H h a o) : a < h.objs.size := by
  cases o with
  | lst xs => obtain ⟨_, _, _, _, e⟩ := x; exact Heap.lt_size e
  | tup xs => obtain ⟨_, _, _, p⟩ := x; exact p.lt
  | dK kvs => obtain ⟨_, _, _, _, o, _, _, e, _⟩ := x; exact Heap.lt_size e
  | dT kvs => obtain ⟨_, _, _, _, o, _, _, e, _⟩ := x; exact Heap.lt_size e
  | set S n => obtain ⟨o, _, _, _, e, _⟩ := x; exact Heap.lt_size e
  | ins C dx fs => obtain ⟨_, _, _, e, _⟩ := x; exact Heap.lt_size e
  | own y => obtain ⟨_, e⟩ := x; exact Heap.lt_size e
  | xd fs => obtain ⟨_, ⟨_, _, _, e, _⟩, _⟩ := x; exact Heap.lt_size e
  | rng lo hi => obtain ⟨_, _, _, e⟩ := x; exact Heap.lt_size e
  | frz ob u => obtain ⟨e, _⟩ := x; exact Heap.lt_size e
  | tbl ps => exact Heap.lt_size (show h.get? a = some _ from x)
  | met f y => exact Heap.lt_size (show h.get? a = some _ from x)
  | ext φ => obtain ⟨_, ⟨_, e⟩, _⟩ := x; exact Heap.lt_size e
theorem Paired.mapP {α β : Type} {F G : α → β → Prop} : ∀ {l₁ : List α} {l₂ : List β}, Paired F l₁ l₂ → (∀ a b, F a b → G a b) → Paired G l₁ l₂
  | _, _, .nil, _ => .nil
  | _, _, .cons r t, f => .cons (f _ _ r) (Paired.mapP t f)
/-- what an object's description leans on: its own object, its own dict, the tuples -/
theorem ObjOk.stay (x : ObjOk P w H h a o) (k : ∀ b u, (b = a ∨ H b = some (.own a)) → h.get? b = some u → h'.get? b = some u)
    (ho : ∀ b, H b = some (.own a) → H' b = some (.own a)) (ht : ∀ b xs, H b = some (.tup xs) → H' b = some (.tup xs)) : ObjOk P w H' h' a o := by
  induction o with
  | lst xs => obtain ⟨z, its, n, r, e⟩ := x; exact ⟨z, its, n, r, k _ _ (.inl rfl) e⟩
  | tup xs => obtain ⟨z, its, r, ob, e, c⟩ := x; exact ⟨z, its, r, ob, k _ _ (.inl rfl) e, c⟩
  | dK kvs => obtain ⟨z, y, vs, r, ob, es, ep, e, c⟩ := x; exact ⟨z, y, vs, r, ob, es, ep, k _ _ (.inl rfl) e, c⟩
  | dT kvs =>
    obtain ⟨z, y, xs, r, ob, es, ep, e, c⟩ := x
    exact ⟨z, y, xs, Paired.mapP r fun p q z => ⟨z.1, ht _ _ z.2.1, z.2.2⟩, ob, es, ep, k _ _ (.inl rfl) e, c⟩
  | set S n => obtain ⟨ob, es, ep, t, e, c⟩ := x; exact ⟨ob, es, ep, t, k _ _ (.inl rfl) e, c⟩
  | ins C dx fs =>
    obtain ⟨d, z, ne, e, mA, ⟨od, es, ep, e2, c⟩, r⟩ := x
    exact ⟨ho _ d, z, ne, k _ _ (.inl rfl) e, mA, ⟨od, es, ep, k _ _ (.inr d) e2, c⟩, r⟩
  | own y => obtain ⟨ob, e⟩ := x; exact ⟨ob, k _ _ (.inl rfl) e⟩
  | xd fs => obtain ⟨mA, ⟨od, es, ep, e, c⟩, r⟩ := x; exact ⟨mA, ⟨od, es, ep, k _ _ (.inl rfl) e, c⟩, r⟩
  | rng lo hi => obtain ⟨t, u, v, e⟩ := x; exact ⟨t, u, v, k _ _ (.inl rfl) e⟩
  | frz ob u ih => obtain ⟨e, q⟩ := x; exact ⟨k _ _ (.inl rfl) e, ih q⟩
  | tbl ps =>
    have e : h.get? a = some { cls := .none, data := .fields ps } := x
    show h'.get? a = some { cls := .none, data := .fields ps }
    exact k a _ (.inl rfl) e
  | met f y =>
    have e : h.get? a = some (PySem.W.methodObj (.ref f) (.ref y)) := x
    show h'.get? a = some (PySem.W.methodObj (.ref f) (.ref y))
    exact k a _ (.inl rfl) e
  | ext φ => obtain ⟨p, ⟨o, e⟩, st⟩ := x; exact ⟨st _ _ p fun o q => k _ _ (.inl rfl) q, ⟨o, k _ _ (.inl rfl) e⟩, st⟩
theorem HOk.lt (x : HOk P w H h) (e : H a = some o) : a < h.objs.size := (x a o e).lt
theorem HOk.fresh (x : HOk P w H h) (e : h.objs.size ≤ a) : H a = none := by
  cases q : H a with
  | none => rfl
  | some u => exact absurd (Nat.lt_of_lt_of_le (x.lt q) e) (Nat.lt_irrefl _)
/-- every object of the heap is kept -/
theorem HOk.kept (x : HOk P w H h) (k : ∀ b u, h.get? b = some u → h'.get? b = some u) : HOk P w H h' := fun a o e =>
  (x a o e).stay (fun b u _ q => k b u q) (fun _ q => q) fun _ _ q => q
/-- a new object is laid and tracked -/
theorem HOk.laid (x : HOk P w H h) (k : ∀ b u, h.get? b = some u → h'.get? b = some u) (hp : h.objs.size ≤ a) (new : ObjOk P w (upd H a o) h' a o) : HOk P w (upd H a o) h' := fun b u e => by
  have hn := x.fresh hp
  by_cases hb : b = a
  · subst hb; rw [upd_same] at e; cases e; exact new
  · rw [upd_ne hb] at e
    exact (x b u e).stay (fun c v _ q => k c v q) (fun c q => by rw [upd_ne (ne_of_none q hn)]; exact q) fun c xs q => by rw [upd_ne (ne_of_none q hn)]; exact q
end

/-- what may be read as u: it is u, or a known u -/
def Rd (H : Hp) (a : Addr) (u : HO) : Prop := H a = some u ∨ ∃ o, H a = some (.frz o u)
theorem Rd.of {H : Hp} {a : Addr} {u : HO} (h : H a = some u) : Rd H a u := .inl h
theorem Rd.ok {P : Program} {w : World} {H : Hp} {h : Heap} {a : Addr} {u : HO} (r : Rd H a u) (x : HOk P w H h) : ObjOk P w H h a u := by
  rcases r with r | ⟨o, r⟩
  · exact x a u r
  · obtain ⟨_, q⟩ := x a _ r
    exact q
/-- what may be written -/
def Mut : Option HO → Prop
  | some (.lst _) => True
  | some (.dK _) => True
  | some (.dT _) => True
  | some (.set _ _) => True
  | some (.ins _ _ _) => True
  | some (.ext _) => True
  | _ => False
section
variable {P : Program} {w : World} {H : Hp} {h h' : Heap} {x e : Addr} {o' : HO}
/-- the object at e is changed: x itself, or the dict of the instance x -/
theorem HOk.write (ok : HOk P w H h) (mu : Mut (H x)) (he : e = x ∨ H e = some (.own x)) (k : ∀ b u, b ≠ e → h.get? b = some u → h'.get? b = some u) (heo : ∃ u, h'.get? e = some u)
    (new : ObjOk P w (upd H x o') h' x o') : HOk P w (upd H x o') h' := fun b u q => by
  have nown : ∀ c y, H c = some (.own y) → c ≠ x := fun c y r z => by subst z; rw [r] at mu; exact mu
  have ntup : ∀ c xs, H c = some (.tup xs) → c ≠ x := fun c xs r z => by subst z; rw [r] at mu; exact mu
  by_cases hb : b = x
  · subst hb; rw [upd_same] at q; cases q; exact new
  · rw [upd_ne hb] at q
    by_cases hbe : b = e
    · have q' : H b = some (.own x) := by
        rcases he with z | z
        · exact absurd (hbe.trans z) hb
        · rw [hbe]; exact z
      rw [q] at q'; cases q'
      obtain ⟨v, hv⟩ := heo
      exact ⟨v, by rw [hbe]; exact hv⟩
    · refine (ok b u q).stay (fun c v hc r => k c v ?_ r) (fun c r => by rw [upd_ne (nown c b r)]; exact r) fun c xs r => by rw [upd_ne (ntup c xs r)]; exact r
      rcases hc with rfl | hc
      · exact hbe
      · rintro rfl
        rcases he with z | z
        · exact nown c b hc z
        · rw [hc] at z; cases z; exact hb rfl
end

/-! ### kept unless tracked; of the frames at fs (the callers') the slots may change (an exception that passes writes there); of the records at ex (iterators) nothing is said -/
structure Un (fs ex : List Addr) (H H' : Hp) (h h' : Heap) : Prop where
  keep : ∀ b o, h.get? b = some o → H b = none → b ∉ fs → b ∉ ex → h'.get? b = some o
  slot : ∀ b o, h.get? b = some o → H b = none → b ∈ fs → b ∉ ex → ∃ sl, h'.get? b = some { o with slots := sl }
  free : ∀ b o, h.get? b = some o → H b = none → b ∉ ex → H' b = none
  there : ∀ b o, h.get? b = some o → b ∉ ex → ∃ o', h'.get? b = some o'
  tups : ∀ b xs, H b = some (.tup xs) → H' b = some (.tup xs)
  frzs : ∀ b o u, H b = some (.frz o u) → H' b = some (.frz o u)
  tbls : ∀ b ps, H b = some (.tbl ps) → ∃ more, H' b = some (.tbl (ps ++ more))
section
variable {fs fs' ex ex' : List Addr} {H H1 H2 : Hp} {h h1 h2 h' : Heap} {a x e : Addr} {o : HO}
theorem Un.any (u : Un fs ex H H1 h h1) {b : Addr} {ob : Obj} (q : h.get? b = some ob) (n : H b = none) (hx : b ∉ ex) : ∃ sl, h1.get? b = some { ob with slots := sl } := by
  by_cases hb : b ∈ fs
  · exact u.slot b ob q n hb hx
  · exact ⟨ob.slots, u.keep b ob q n hb hx⟩
theorem Un.trans (a : Un fs ex H H1 h h1) (b : Un fs ex H1 H2 h1 h2) : Un fs ex H H2 h h2 where
  keep := fun c ob q n hc hx => b.keep c ob (a.keep c ob q n hc hx) (a.free c ob q n hx) hc hx
  slot := fun c ob q n hc hx => by
    obtain ⟨sl, e1⟩ := a.slot c ob q n hc hx
    obtain ⟨sl', e2⟩ := b.slot c _ e1 (a.free c ob q n hx) hc hx
    exact ⟨sl', e2⟩
  free := fun c ob q n hx => by
    obtain ⟨o', e1⟩ := a.there c ob q hx
    exact b.free c o' e1 (a.free c ob q n hx) hx
  there := fun c ob q hx => by
    obtain ⟨o', e1⟩ := a.there c ob q hx
    exact b.there c o' e1 hx
  tups := fun c xs q => b.tups c xs (a.tups c xs q)
  frzs := fun c ob xs q => b.frzs c ob xs (a.frzs c ob xs q)
  tbls := fun c ps q => by
    obtain ⟨m1, e1⟩ := a.tbls c ps q
    obtain ⟨m2, e2⟩ := b.tbls c _ e1
    exact ⟨m1 ++ m2, by rw [e2, Array.append_assoc]⟩
theorem Un.kept (k : ∀ b u, h.get? b = some u → h'.get? b = some u) : Un fs ex H H h h' :=
  ⟨fun b ob q _ _ _ => k b ob q, fun b ob q _ _ _ => ⟨ob.slots, k b ob q⟩, fun _ _ _ n _ => n, fun b ob q _ => ⟨ob, k b ob q⟩, fun _ _ q => q, fun _ _ _ q => q, fun _ ps q => ⟨#[], by rw [q]; simp⟩⟩
theorem Un.refl : Un fs ex H H h h := Un.kept fun _ _ q => q
theorem Un.laid (k : ∀ b u, h.get? b = some u → h'.get? b = some u) (hp : h.objs.size ≤ a) (hn : H a = none) : Un fs ex H (upd H a o) h h' where
  keep := fun b u q _ _ _ => k b u q
  slot := fun b u q _ _ _ => ⟨u.slots, k b u q⟩
  free := fun b u q n _ => by rw [upd_ne (Nat.ne_of_lt (Nat.lt_of_lt_of_le (Heap.lt_size q) hp))]; exact n
  there := fun b u q _ => ⟨u, k b u q⟩
  tups := fun b xs q => by rw [upd_ne (ne_of_none q hn)]; exact q
  frzs := fun b u xs q => by rw [upd_ne (ne_of_none q hn)]; exact q
  tbls := fun b ps q => ⟨#[], by rw [upd_ne (ne_of_none q hn), q]; simp⟩
theorem Un.write (mu : Mut (H x)) (he : e = x ∨ H e = some (.own x)) (k : ∀ b u, b ≠ e → h.get? b = some u → h'.get? b = some u) (heo : ∃ u, h'.get? e = some u) : Un fs ex H (upd H x o) h h' := by
  have hx : ∀ b, H b = none → b ≠ x := fun b n z => by subst z; rw [n] at mu; exact mu
  have hb : ∀ b, H b = none → b ≠ e := fun b n z => by
    subst z
    rcases he with r | r
    · exact hx b n r
    · rw [n] at r; cases r
  have hm : ∀ b u, H b = some u → ¬ Mut (some u) → b ≠ x := fun b u q nm z => by subst z; rw [q] at mu; exact nm mu
  refine ⟨fun b u q n _ _ => k b u (hb b n) q, fun b u q n _ _ => ⟨u.slots, k b u (hb b n) q⟩, fun b u q n _ => by rw [upd_ne (hx b n)]; exact n, fun b u q _ => ?_,
    fun b xs q => by rw [upd_ne (hm b _ q fun z => z)]; exact q, fun b u xs q => by rw [upd_ne (hm b _ q fun z => z)]; exact q, fun b ps q => ⟨#[], by rw [upd_ne (hm b _ q fun z => z), q]; simp⟩⟩
  by_cases hbe : b = e
  · subst hbe; exact heo
  · exact ⟨u, k b u hbe q⟩
theorem Un.mono (u : Un fs ex H H1 h h1) (hs : ∀ b ∈ fs, b ∈ fs') (hx : ∀ b ∈ ex, b ∈ ex') : Un fs' ex' H H1 h h1 :=
  ⟨fun b ob q n hb he => u.keep b ob q n (fun z => hb (hs b z)) fun z => he (hx b z), fun _ _ q n _ he => u.any q n fun z => he (hx _ z), fun b ob q n he => u.free b ob q n fun z => he (hx b z), fun b ob q he => u.there b ob q fun z => he (hx b z), u.tups, u.frzs, u.tbls⟩
end

/-! ### the heap without what is tracked -/
def trk (h : Heap) (H : Hp) : List Addr := (List.range h.objs.size).filter fun a => (H a).isSome
def hidT (h : Heap) (H : Hp) : Heap := PySem.W.hideAll h (trk h H)
theorem hidT_size (h : Heap) (H : Hp) : (hidT h H).objs.size = h.objs.size := PySem.W.hideAll_size _ _
theorem hidT_get {h : Heap} {H : Hp} {b : Addr} {o : Obj} (e : h.get? b = some o) (n : H b = none) : (hidT h H).get? b = some o :=
  PySem.W.hideAll_get _ e fun hm => by
    have q : (H b).isSome = true := (List.mem_filter.mp hm).2
    rw [n] at q; simp at q
theorem of_hidT {h : Heap} {H : Hp} {b : Addr} {o : Obj} (e : (hidT h H).get? b = some o) : h.get? b = some o ∧ H b = none := by
  have e' : h.get? b = some o := PySem.W.of_hideAll (trk h H) e
  refine ⟨e', ?_⟩
  cases q : H b with
  | none => rfl
  | some x =>
    have hm : b ∈ trk h H := List.mem_filter.mpr ⟨List.mem_range.mpr (Heap.lt_size e'), by simp [q]⟩
    have z : (hidT h H).get? b = none := PySem.W.hideAll_none (trk h H) hm
    rw [z] at e; cases e

/-! ### OpenK's ledger, filled with every new object but one -/
def allNews (g h : Heap) (L : Addr) : List (Addr × Obj) := (List.range h.objs.size).filterMap fun a => if a = L ∨ (g.get? a).isSome = true then none else (h.get? a).map fun o => (a, o)
def rest (g h : Heap) (L d : Addr) : List (Addr × Obj) := (allNews g h L).filter fun p => decide (p.1 ≠ d)
end L2

namespace L2
open PySem PySem.Spec PyProof.Rows

/-- the module's facts, over the base: the heap at the law's entry without what is tracked there -/
structure Mod (K : PySem.W.Frag) (mg : Str → Option Value) (base : Heap) : Prop where
  kin : K.In base
  glob : base.Ns mainGlobals mg
  blt : ∃ mb, base.Ns builtinsNs mb ∧ ∀ x : Str, x ≠ "__name__" → mb x = bootBuiltins x
  nolimit : base.NoLimit

/-- the context: a def's body (or a comprehension's block) running. base: fixed through the whole law; s₀, H₀: the entry; outer: the frames whose slots others may change (a def's callers); stack: all frames that run;
   ex: iterators that were made ahead of the entry and are walked here (a comprehension's); fn: the names whose cells were made at the entry (a def: all; a comprehension's block: its own); calm: not within an except suite; pn: pins that every state bears; xe: what is wanted of an exception that leaves the code -/
structure Cx where
  prog : Program
  w : World
  K : PySem.W.Frag
  mg : Str → Option Value
  base : Heap
  A : Around
  N : List Str
  s₀ : Shared
  H₀ : Hp
  env : Env
  outer : List Env
  stack : List Env
  ex : List Addr
  fn : Str → Bool
  calm : Bool
  pn : List (Addr × Obj)
  xe : Value → Shared → Prop
/-- the callers' frames -/
def frs (l : List Env) : List Addr := l.filterMap (·.frame)
abbrev Cx.fs (X : Cx) : List Addr := frs X.outer

def Vis (sc : Scope) (x : Str) : Prop := sc.names.lookup x = some .local ∨ sc.names.lookup x = some .cell ∨ sc.names.lookup x = some .free
def Loc (sc : Scope) (x : Str) : Prop := sc.names.lookup x = some .local ∨ sc.names.lookup x = some .cell
def Look (env : Env) (h : Heap) (m : Str → Option Value) (x : Str) (u : Value) : Prop :=
  (env.kindOf x = some .local ∧ m x = some u) ∨ ((env.kindOf x = some .cell ∨ env.kindOf x = some .free) ∧ ∃ c, env.cells.lookup x = some c ∧ h.IsCell c (some u))

structure Cx.Ok (X : Cx) : Prop where
  mod : Mod X.K X.mg X.base
  kind : X.env.scope.kind = .function
  glob : X.env.globals = mainGlobals
  blt : X.env.builtins = builtinsNs
  above : X.s₀.heap.objs.size ≤ X.env.locals
  inj : ∀ x y c, X.env.cells.lookup x = some c → X.env.cells.lookup y = some c → x = y
  has : ∀ x, (X.env.kindOf x = some .cell ∨ X.env.kindOf x = some .free) → ∃ c, X.env.cells.lookup x = some c
  cab : ∀ x c, X.fn x = true → X.env.cells.lookup x = some c → X.s₀.heap.objs.size ≤ c
  hd : X.calm = true → X.A.handled = none
  frames : X.A.frames = some X.stack
  stk : X.stack = X.outer ∨ (X.stack = X.env :: X.outer ∧ X.env.frame = some X.env.locals)
  exf : ∀ b ∈ X.ex, b ≠ X.env.locals ∧ ∀ x c, X.env.cells.lookup x = some c → c ≠ b
  bs : ∀ b o, X.base.get? b = some o → X.s₀.heap.get? b = some o ∧ X.H₀ b = none
  bsz : X.base.objs.size ≤ X.s₀.heap.objs.size
  noex : ∀ b o, X.base.get? b = some o → b ∉ X.ex
  exfs : ∀ b ∈ X.ex, b ∉ X.fs
  funs : X.s₀.heap.FunFrames X.base X.outer
  frf : ∀ b ∈ X.fs, X.H₀ b = none

structure Inv (X : Cx) (pins : List (Addr × Obj)) (σ : List (Option V)) (H : Hp) (s : Shared) : Prop where
  ok : X.Ok
  os : s.os = X.s₀.os
  bare : AllBare s.gens
  base : Un X.fs X.ex X.H₀ H X.s₀.heap s.heap
  loc : ∃ m, s.heap.Ns X.env.locals m ∧ ∀ (i : Nat) (x : Str) (v : V), X.N[i]? = some x → σ[i]? = some (some v) → Vis X.env.scope x → ∃ u, RelV v u ∧ Look X.env s.heap m x u
  cell : ∀ x c, X.env.cells.lookup x = some c → ∃ v, s.heap.IsCell c v
  free : H X.env.locals = none
  freeC : ∀ x c, X.env.cells.lookup x = some c → H c = none
  pin : ∀ p ∈ X.pn ++ pins, s.heap.get? p.1 = some p.2 ∧ H p.1 = none ∧ p.1 ≠ X.env.locals ∧ p.1 ∉ X.fs ∧ ∀ v, p.2.data ≠ .cell v
  hok : HOk X.prog X.w H s.heap
  len : σ.length = X.N.length

section
variable {X : Cx} {pins : List (Addr × Obj)} {σ : List (Option V)} {H H' : Hp} {s : Shared} {h' : Heap}

theorem Cx.Ok.nofr (ok : X.Ok) {b : Addr} {o : Obj} (e : X.base.get? b = some o) : b ∉ X.fs := fun hb => by
  have := (ok.funs.mem hb).1
  rw [e] at this; cases this
theorem Inv.bs (I : Inv X pins σ H s) : ∀ b o, X.base.get? b = some o → s.heap.get? b = some o ∧ H b = none := fun b o e =>
  ⟨I.base.keep b o (I.ok.bs b o e).1 (I.ok.bs b o e).2 (I.ok.nofr e) (I.ok.noex b o e), I.base.free b o (I.ok.bs b o e).1 (I.ok.bs b o e).2 (I.ok.noex b o e)⟩
theorem Inv.bk (I : Inv X pins σ H s) : ∀ b o, X.base.get? b = some o → s.heap.get? b = some o := fun b o e => (I.bs b o e).1
theorem Inv.mod (I : Inv X pins σ H s) : Mod X.K X.mg X.base := I.ok.mod
theorem Inv.kIn (I : Inv X pins σ H s) : X.K.In s.heap := I.ok.mod.kin.keeps I.bk
theorem Inv.nolimit (I : Inv X pins σ H s) : s.heap.NoLimit := I.ok.mod.nolimit.keeps I.bk
theorem Inv.lt (I : Inv X pins σ H s) : X.env.locals < s.heap.objs.size := let ⟨_, hn, _⟩ := I.loc; hn.lt
theorem Inv.sz (I : Inv X pins σ H s) : X.s₀.heap.objs.size ≤ s.heap.objs.size := Nat.le_trans I.ok.above (Nat.le_of_lt I.lt)
theorem Inv.cne (I : Inv X pins σ H s) : ∀ x c, X.env.cells.lookup x = some c → c ≠ X.env.locals := fun x c e z => by
  obtain ⟨v, o, ho, hd⟩ := I.cell x c e
  obtain ⟨m, ⟨o', es, ep, ho', hd', _⟩, _⟩ := I.loc
  rw [z, ho'] at ho; cases ho; rw [hd'] at hd; cases hd
theorem Inv.funs (I : Inv X pins σ H s) : s.heap.FunFrames X.base X.outer := by
  have all : ∀ (l : List Env), (∀ b ∈ frs l, b ∈ X.fs) → X.s₀.heap.FunFrames X.base l → s.heap.FunFrames X.base l := by
    intro l
    induction l with
    | nil => intro _ _; trivial
    | cons env r ih =>
      intro hs hl
      obtain ⟨hk, ⟨L, o, hf, hn, ho, hd⟩, hr⟩ := hl
      have hL : L ∈ X.fs := hs L (by unfold frs; rw [List.filterMap_cons, hf]; exact List.mem_cons_self)
      obtain ⟨sl, e⟩ := I.base.slot L o ho (I.ok.frf L hL) hL fun z => I.ok.exfs L z hL
      exact ⟨hk, ⟨L, _, hf, hn, e, hd⟩, ih (fun b hb => hs b (by unfold frs; rw [List.filterMap_cons, hf]; exact List.mem_cons_of_mem _ hb)) hr⟩
  exact all X.outer (fun _ hb => hb) I.ok.funs

/-- the frames that run, for a call -/
theorem Inv.stack (I : Inv X pins σ H s) : s.heap.FunFrames X.base X.stack := by
  rcases I.ok.stk with e | ⟨e, hf⟩
  · rw [e]; exact I.funs
  · rw [e]
    obtain ⟨m, hn, _⟩ := I.loc
    refine .cons (by rw [I.ok.kind]; decide) hf hn ?_ I.funs
    exact Heap.get?_none_of_le (Nat.le_trans I.ok.bsz I.ok.above)
theorem Inv.stkSub (I : Inv X pins σ H s) : ∀ b ∈ frs X.stack, b ∈ X.env.locals :: X.fs := fun b hb => by
  rcases I.ok.stk with e | ⟨e, hf⟩
  · rw [e] at hb; exact List.mem_cons_of_mem _ hb
  · rw [e] at hb
    unfold frs at hb
    rw [List.filterMap_cons, hf] at hb
    exact hb
/-- THE STEP: the untracked objects but the frame and the records at ch are kept (the callers' frames up to slots), the frame's map is kept, the new abstract heap is held -/
theorem Inv.step {g' : Array GenState} {t' : Nat} {d' : Drawn} {ch : List Addr} (I : Inv X pins σ H s)
    (hch : ∀ b ∈ ch, (b ∈ X.ex ∨ X.s₀.heap.objs.size ≤ b) ∧ b ≠ X.env.locals ∧ (∀ x c, X.env.cells.lookup x = some c → c ≠ b) ∧ ∀ p ∈ X.pn ++ pins, p.1 ≠ b)
    (keep : ∀ b o, b ≠ X.env.locals → b ∉ X.fs → b ∉ ch → s.heap.get? b = some o → H b = none → h'.get? b = some o)
    (slot : ∀ b o, b ≠ X.env.locals → b ∈ X.fs → b ∉ ch → s.heap.get? b = some o → H b = none → ∃ sl, h'.get? b = some { o with slots := sl }) (free : ∀ b o, b ∉ ch → s.heap.get? b = some o → H b = none → H' b = none)
    (there : ∀ b o, b ∉ ch → s.heap.get? b = some o → ∃ o', h'.get? b = some o')
    (tups : ∀ b xs, H b = some (.tup xs) → H' b = some (.tup xs)) (frzs : ∀ b o u, H b = some (.frz o u) → H' b = some (.frz o u)) (tbls : ∀ b ps, H b = some (.tbl ps) → ∃ more, H' b = some (.tbl (ps ++ more)))
    (ns : ∀ m, s.heap.Ns X.env.locals m → h'.Ns X.env.locals m) (hok : HOk X.prog X.w H' h') (hg : AllBare g') :
    Inv X pins σ H' { s with heap := h', gens := g', drawn := d', toks := t' } := by
  have neL : ∀ b o, X.s₀.heap.get? b = some o → b ≠ X.env.locals := fun b o e => Nat.ne_of_lt (Nat.lt_of_lt_of_le (Heap.lt_size e) I.ok.above)
  have neC : ∀ b o, X.s₀.heap.get? b = some o → b ∉ X.ex → b ∉ ch := fun b o e hx hb => by
    rcases (hch b hb).1 with z | z
    · exact hx z
    · exact absurd (Nat.lt_of_lt_of_le (Heap.lt_size e) z) (Nat.lt_irrefl _)
  have cellK : ∀ x c, X.env.cells.lookup x = some c → ∀ v, s.heap.IsCell c v → h'.IsCell c v := fun x c e v ⟨o, ho, hd⟩ => by
    have nch : c ∉ ch := fun z => (hch c z).2.2.1 x c e rfl
    by_cases hc : c ∈ X.fs
    · obtain ⟨sl, q⟩ := slot c o (I.cne x c e) hc nch ho (I.freeC x c e)
      exact ⟨_, q, hd⟩
    · exact ⟨o, keep c o (I.cne x c e) hc nch ho (I.freeC x c e), hd⟩
  refine ⟨I.ok, I.os, hg, ⟨fun b o e n hb hx => ?_, fun b o e n hb hx => ?_, fun b o e n hx => ?_, fun b o e hx => ?_, fun b xs e => tups b xs (I.base.tups b xs e), fun b o xs e => frzs b o xs (I.base.frzs b o xs e), fun b ps e => ?_⟩, ?_, fun x c e => ?_, ?_, fun x c e => ?_, fun p hp => ?_, hok, I.len⟩
  · exact keep b o (neL b o e) hb (neC b o e hx) (I.base.keep b o e n hb hx) (I.base.free b o e n hx)
  · obtain ⟨sl, e1⟩ := I.base.slot b o e n hb hx
    obtain ⟨sl', e2⟩ := slot b _ (neL b o e) hb (neC b o e hx) e1 (I.base.free b o e n hx)
    exact ⟨sl', e2⟩
  · obtain ⟨o', e1⟩ := I.base.there b o e hx
    exact free b o' (neC b o e hx) e1 (I.base.free b o e n hx)
  · obtain ⟨o', e1⟩ := I.base.there b o e hx
    exact there b o' (neC b o e hx) e1
  · obtain ⟨m1, e1⟩ := I.base.tbls b ps e
    obtain ⟨m2, e2⟩ := tbls b _ e1
    exact ⟨m1 ++ m2, by rw [e2, Array.append_assoc]⟩
  · obtain ⟨m, hn, hl⟩ := I.loc
    refine ⟨m, ns m hn, fun i x v e1 e2 e3 => ?_⟩
    obtain ⟨u, r, l⟩ := hl i x v e1 e2 e3
    refine ⟨u, r, ?_⟩
    rcases l with l | ⟨k, c, e, z⟩
    · exact .inl l
    · exact .inr ⟨k, c, e, cellK x c e _ z⟩
  · obtain ⟨v, z⟩ := I.cell x c e
    exact ⟨v, cellK x c e v z⟩
  · obtain ⟨m, ⟨o, _, _, ho, _⟩, _⟩ := I.loc
    exact free _ o (fun z => (hch _ z).2.1 rfl) ho I.free
  · obtain ⟨v, o, ho, hd⟩ := I.cell x c e
    exact free c o (fun z => (hch c z).2.2.1 x c e rfl) ho (I.freeC x c e)
  · obtain ⟨e, n, ne, nf, d⟩ := I.pin p hp
    have nch : p.1 ∉ ch := fun z => (hch p.1 z).2.2.2 p hp rfl
    exact ⟨keep p.1 p.2 ne nf nch e n, free p.1 p.2 nch e n, ne, nf, d⟩
/-- .. where the frame's own object is kept too -/
theorem Inv.un {t' : Nat} (I : Inv X pins σ H s) (u : Un X.fs [] H H' s.heap h') (hok : HOk X.prog X.w H' h') : Inv X pins σ H' { s with heap := h', toks := t' } := by
  obtain ⟨m, ⟨o, es, ep, ho, r⟩, _⟩ := id I.loc
  obtain ⟨sl, hL⟩ := u.any ho I.free (by simp)
  exact I.step (g' := s.gens) (d' := s.drawn) (ch := []) (fun _ z => nomatch z) (fun b o _ hb _ e n => u.keep b o e n hb (by simp)) (fun b o _ hb _ e n => u.slot b o e n hb (by simp)) (fun b o _ e n => u.free b o e n (by simp)) (fun b o _ e => u.there b o e (by simp)) u.tups u.frzs u.tbls (fun m' hm => by
    obtain ⟨o', es', ep', ho', r'⟩ := hm
    rw [ho] at ho'; cases ho'
    exact ⟨_, es', ep', hL, r'⟩) hok I.bare
/-- behind a call (or a comprehension's block): the slots of this frame may have changed too, the records at ch may have turned -/
theorem Inv.call {g' : Array GenState} {t' : Nat} {d' : Drawn} {ch : List Addr} (I : Inv X pins σ H s) (u : Un (frs X.stack) ch H H' s.heap h') (hok : HOk X.prog X.w H' h') (hg : AllBare g')
    (hch : ∀ b ∈ ch, (b ∈ X.ex ∨ X.s₀.heap.objs.size ≤ b) ∧ b ≠ X.env.locals ∧ (∀ x c, X.env.cells.lookup x = some c → c ≠ b) ∧ ∀ p ∈ X.pn ++ pins, p.1 ≠ b) :
    Inv X pins σ H' { s with heap := h', gens := g', drawn := d', toks := t' } := by
  obtain ⟨m, ⟨o, es, ep, ho, r⟩, _⟩ := id I.loc
  obtain ⟨sl, hL⟩ := u.any ho I.free fun z => (hch _ z).2.1 rfl
  exact I.step (ch := ch) hch (fun b o hL hb hc e n => u.keep b o e n (fun z => (List.mem_cons.mp (I.stkSub b z)).elim hL hb) hc) (fun b o _ _ hc e n => u.any e n hc) (fun b o hc e n => u.free b o e n hc) (fun b o hc e => u.there b o e hc) u.tups u.frzs u.tbls (fun m' hm => by
    obtain ⟨o', es', ep', ho', r'⟩ := hm
    rw [ho] at ho'; cases ho'
    exact ⟨_, es', ep', hL, r'⟩) hok hg
/-- an untracked record of ours (an iterator) has turned -/
theorem Inv.turned {t' : Nat} {it : Addr} (I : Inv X pins σ H s) (k : ∀ b o, b ≠ it → s.heap.get? b = some o → h'.get? b = some o) (hn : H it = none) (hL : it ≠ X.env.locals)
    (h1 : it ∈ X.ex ∨ X.s₀.heap.objs.size ≤ it) (h2 : ∀ x c, X.env.cells.lookup x = some c → c ≠ it) (h3 : ∀ p ∈ X.pn ++ pins, p.1 ≠ it) : Inv X pins σ H { s with heap := h', toks := t' } := by
  have nit : ∀ b u, H b = some u → b ≠ it := fun b u e z => by rw [z, hn] at e; cases e
  refine I.step (g' := s.gens) (d' := s.drawn) (ch := [it]) (fun b hb => ?_) (fun b o _ _ hc e _ => k b o (fun z => hc (by simp [z])) e) (fun b o _ _ hc e _ => ⟨o.slots, k b o (fun z => hc (by simp [z])) e⟩) (fun _ _ _ _ n => n)
    (fun b o hc e => ⟨o, k b o (fun z => hc (by simp [z])) e⟩) (fun _ _ e => e) (fun _ _ _ e => e) (fun b ps e => ⟨#[], by rw [e]; simp⟩) (fun m hm => ?_) (fun b u e => ?_) I.bare
  · have e : b = it := by simpa using hb
    subst e
    exact ⟨h1, hL, h2, h3⟩
  · obtain ⟨o, es, ep, ho, r⟩ := hm
    exact ⟨o, es, ep, k _ o (Ne.symm hL) ho, r⟩
  · refine (I.hok b u e).stay (fun c v hc q => k c v ?_ q) (fun _ q => q) fun _ _ q => q
    rcases hc with z | z
    · rw [z]; exact nit b u e
    · exact nit c _ z
/-- all objects kept -/
theorem Inv.kept {t' : Nat} (I : Inv X pins σ H s) (k : ∀ b u, s.heap.get? b = some u → h'.get? b = some u) : Inv X pins σ H { s with heap := h', toks := t' } := I.un (Un.kept k) (I.hok.kept k)
/-- a new object laid and tracked -/
theorem Inv.laid {a : Addr} {o : HO} {t' : Nat} (I : Inv X pins σ H s) (k : ∀ b u, s.heap.get? b = some u → h'.get? b = some u) (hp : s.heap.objs.size ≤ a) (new : ObjOk X.prog X.w (upd H a o) h' a o) :
    Inv X pins σ (upd H a o) { s with heap := h', toks := t' } := I.un (Un.laid k hp (I.hok.fresh hp)) (I.hok.laid k hp new)
/-- an object written -/
theorem Inv.write {x e : Addr} {o : HO} {t' : Nat} (I : Inv X pins σ H s) (mu : Mut (H x)) (he : e = x ∨ H e = some (.own x)) (k : ∀ b u, b ≠ e → s.heap.get? b = some u → h'.get? b = some u) (heo : ∃ u, h'.get? e = some u)
    (new : ObjOk X.prog X.w (upd H x o) h' x o) : Inv X pins σ (upd H x o) { s with heap := h', toks := t' } := I.un (Un.write mu he k heo) (I.hok.write mu he k heo new)
theorem Inv.pins_of {pins' : List (Addr × Obj)} (I : Inv X pins σ H s) (h : ∀ p ∈ pins', s.heap.get? p.1 = some p.2 ∧ H p.1 = none ∧ p.1 ≠ X.env.locals ∧ p.1 ∉ X.fs ∧ ∀ v, p.2.data ≠ .cell v) : Inv X pins' σ H s :=
  ⟨I.ok, I.os, I.bare, I.base, I.loc, I.cell, I.free, I.freeC, fun p hp => (List.mem_append.mp hp).elim (fun z => I.pin p (List.mem_append_left _ z)) (h p), I.hok, I.len⟩

end

/-! ### the judgements -/
/-- an exception: its class, its own dict's address (where it has one), the abstract heap behind it -/
abbrev XK := Value → Option Addr → Hp → Prop
abbrev St := List (Option V)
abbrev VK := V → Hp → Prop
/-- an expression's reading; a test's; an argument list's -/
abbrev TE := St → Hp → VK → Prop
abbrev TT := St → Hp → (Bool → Hp → Prop) → Prop
abbrev TA := St → Hp → (List V → Hp → Prop) → Prop
/-- what is wanted behind a statement -/
structure Ends where
  nx : St → Hp → Prop
  rt : VK
  bk : St → Hp → Prop := fun _ _ => False
  ct : St → Hp → Prop := fun _ _ => False
abbrev TS := Ends → St → Hp → Prop

def EP (X : Cx) (pins : List (Addr × Obj)) (σ : St) (Q : VK) (u : Value) (s' : Shared) : Prop := ∃ v H', Inv X pins σ H' s' ∧ RelV v u ∧ Q v H'
def TP (X : Cx) (pins : List (Addr × Obj)) (σ : St) (Q : Bool → Hp → Prop) (b : Bool) (s' : Shared) : Prop := ∃ H', Inv X pins σ H' s' ∧ Q b H'
def AP (X : Cx) (pins : List (Addr × Obj)) (σ : St) (Q : List V → Hp → Prop) (us : List Value) (s' : Shared) : Prop := ∃ vs H', Inv X pins σ H' s' ∧ Vals vs us ∧ Q vs H'
def SP (X : Cx) (pins : List (Addr × Obj)) (D : Ends) (f : Flow) (s' : Shared) : Prop :=
  match f with
  | .next => ∃ σ' H', Inv X pins σ' H' s' ∧ D.nx σ' H'
  | .brk => ∃ σ' H', Inv X pins σ' H' s' ∧ D.bk σ' H'
  | .cont => ∃ σ' H', Inv X pins σ' H' s' ∧ D.ct σ' H'
  | .ret u => ∃ v σ' H', Inv X pins σ' H' s' ∧ RelV v u ∧ D.rt v H'

def PE (X : Cx) (e : Expr) (t : TE) : Prop :=
  ∀ (pins : List (Addr × Obj)) (s : Shared) (σ : St) (H : Hp) (Q : VK), Inv X pins σ H s → t σ H Q → wpAny (model X.prog X.w) X.A (eval e X.env) (EP X pins σ Q) X.xe s
def PT (X : Cx) (e : Expr) (t : TT) : Prop :=
  ∀ (pins : List (Addr × Obj)) (s : Shared) (σ : St) (H : Hp) (Q : Bool → Hp → Prop), Inv X pins σ H s → t σ H Q → wpAny (model X.prog X.w) X.A (isTrue e X.env (eval e X.env)) (TP X pins σ Q) X.xe s
/-- a test whatever its 'whole' is (and, or) -/
def PW (X : Cx) (e : Expr) (t : TT) : Prop :=
  ∀ (whole : Sem Value) (pins : List (Addr × Obj)) (s : Shared) (σ : St) (H : Hp) (Q : Bool → Hp → Prop), Inv X pins σ H s → t σ H Q → wpAny (model X.prog X.w) X.A (isTrue e X.env whole) (TP X pins σ Q) X.xe s
theorem PW.pt {X : Cx} {e : Expr} {t : TT} (h : PW X e t) : PT X e t := h _
/-- an argument list (no star), from the left -/
def PA (X : Cx) (es : List Expr) (t : TA) : Prop :=
  ∀ (pos : Pos) (pins : List (Addr × Obj)) (s : Shared) (σ : St) (H : Hp) (Q : List V → Hp → Prop), Inv X pins σ H s → t σ H Q → wpAny (model X.prog X.w) X.A (spliced (backTo pos (starEach es X.env))) (AP X pins σ Q) X.xe s
def PS (X : Cx) (st : Stmt) (t : TS) : Prop :=
  ∀ (pins : List (Addr × Obj)) (s : Shared) (σ : St) (H : Hp) (D : Ends), Inv X pins σ H s → t D σ H → wpAny (model X.prog X.w) X.A (exec st X.env) (SP X pins D) X.xe s
def PSs (X : Cx) (st : List Stmt) (t : TS) : Prop :=
  ∀ (pins : List (Addr × Obj)) (s : Shared) (σ : St) (H : Hp) (D : Ends), Inv X pins σ H s → t D σ H → wpAny (model X.prog X.w) X.A (execs st X.env) (SP X pins D) X.xe s
end L2

namespace L2
open PySem PySem.Spec PyProof.Rows
section
variable {X : Cx}

/-! ### names and constants -/
def tVar (i : Nat) : TE := fun σ H Q => ∃ v, σ[i]? = some (some v) ∧ Q v H
def tC (v : V) : TE := fun _ H Q => Q v H
/-- a global name of the def -/
def Gl (X : Cx) (x : Str) : Prop := X.env.kindOf x = some .globalImplicit
/-! ### arithmetic -/
/-- two ints -/
def t2I (ta tb : TE) (k : Int → Int → Hp → Prop) : St → Hp → Prop := fun σ H => ta σ H fun x H1 => tb σ H1 fun y H2 => ∃ i j, x = .int i ∧ y = .int j ∧ k i j H2
def tAdd (ta tb : TE) : TE := fun σ H Q => t2I ta tb (fun i j H2 => Q (.int (i + j)) H2) σ H
def tSub (ta tb : TE) : TE := fun σ H Q => t2I ta tb (fun i j H2 => Q (.int (i - j)) H2) σ H
/-- the left factor below 2^64 -/
def tMul (ta tb : TE) : TE := fun σ H Q => t2I ta tb (fun i j H2 => (-(2 ^ 64) < i ∧ i < 2 ^ 64) ∧ Q (.int (i * j)) H2) σ H
variable {a b : Expr} {ta tb : TE} {pos : Pos}
/-! ### comparisons -/
def PC (X : Cx) (op : CmpOp) (a b : Expr) (t : TE) : Prop :=
  ∀ (pins : List (Addr × Obj)) (s : Shared) (σ : St) (H : Hp) (Q : VK), Inv X pins σ H s → t σ H Q →
    wpAny (model X.prog X.w) X.A (eval a X.env) (fun v s₁ => wpAny (model X.prog X.w) X.A (eval b X.env) (fun u s₂ => wpAny (model X.prog X.w) X.A (compareOp op v u) (EP X pins σ Q) X.xe s₂) X.xe s₁) X.xe s
def tCmp (p : Int → Int → Bool) (ta tb : TE) : TE := fun σ H Q => t2I ta tb (fun i j H2 => Q (.bl (p i j)) H2) σ H
abbrev tLt : TE → TE → TE := tCmp fun i j => decide (i < j)
abbrev tLe : TE → TE → TE := tCmp fun i j => decide (i ≤ j)
abbrev tGt : TE → TE → TE := tCmp fun i j => decide (j < i)
abbrev tGe : TE → TE → TE := tCmp fun i j => decide (j ≤ i)
abbrev tEqI : TE → TE → TE := tCmp fun i j => decide (i = j)
abbrev tNeI : TE → TE → TE := tCmp fun i j => !decide (i = j)
/-- is None -/
def tIsN (ta : TE) : TE := fun σ H Q => ta σ H fun x H1 => Q (.bl (decide (x = .non))) H1
def tNotN (ta : TE) : TE := fun σ H Q => ta σ H fun x H1 => Q (.bl (!decide (x = .non))) H1
/-- a comparison as a value, as a test -/
def tB (t : TE) : TT := fun σ H Q => t σ H fun x H1 => ∃ c, x = .bl c ∧ Q c H1
/-! ### and, or, not -/
variable {tA tB' : TT} {rest : List Expr}
def tAnd (t u : TT) : TT := fun σ H Q => t σ H fun c H1 => if c = true then u σ H1 Q else Q false H1
def tOr (t u : TT) : TT := fun σ H Q => t σ H fun c H1 => if c = true then Q true H1 else u σ H1 Q
def tNot (t : TT) : TT := fun σ H Q => t σ H fun c H1 => Q (!c) H1
/-- .. as values (bools) -/
def tAndV (ta tb : TE) : TE := fun σ H Q => ta σ H fun x H1 => ∃ c, x = .bl c ∧ if c = true then tb σ H1 Q else Q (.bl false) H1
def tOrV (ta tb : TE) : TE := fun σ H Q => ta σ H fun x H1 => ∃ c, x = .bl c ∧ if c = true then Q (.bl true) H1 else tb σ H1 Q
def tNotV (ta : TE) : TE := fun σ H Q => ta σ H fun x H1 => ∃ c, x = .bl c ∧ Q (.bl (!c)) H1
/-- a if t else b -/
def tIf (t : TT) (ta tb : TE) : TE := fun σ H Q => t σ H fun c H1 => if c = true then ta σ H1 Q else tb σ H1 Q
end
end L2

namespace L2
open PySem PySem.Spec PyProof.Rows

/-! ### a list, a tuple that is read: tracked, frozen, or an object of the module -/
def SqL (K : PySem.W.Frag) (H : Hp) (a : Addr) (xs : List V) : Prop :=
  Rd H a (.lst xs) ∨
    ∃ (o : Obj) (its : Array Value) (n : Nat), K.lookup a = some o ∧ o.cls = .type "list" ∧ o.dict = none ∧ o.data = .seq its n ∧ its.size ≤ sizeLine ∧ Vals xs its.toList
def SqT (K : PySem.W.Frag) (H : Hp) (a : Addr) (xs : List V) : Prop :=
  Rd H a (.tup xs) ∨
    ∃ (o : Obj) (its : Array Value) (n : Nat), K.lookup a = some o ∧ o.cls = .type "tuple" ∧ o.data = .seq its n ∧ its.size ≤ sizeLine ∧ Vals xs its.toList
def absV : Value → Option V
  | .none => some .non
  | .bool b => some (.bl b)
  | .int i _ => some (.int i)
  | .str x _ => some (.str x)
  | .bytes b _ => some (.byt b)
  | .float b _ => some (.flt b)
  | .ref a => some (.ref a)
  | .type n => some (.ty n)
  | _ => none
theorem RelV.abs {x : V} {u : Value} (r : RelV x u) : absV u = some x := by
  cases x with
  | non => cases r; rfl
  | bl _ => cases r; rfl
  | int _ => obtain ⟨t, rfl⟩ := r; rfl
  | str _ => obtain ⟨t, rfl⟩ := r; rfl
  | byt _ => obtain ⟨t, rfl⟩ := r; rfl
  | flt _ => obtain ⟨t, rfl⟩ := r; rfl
  | ref _ => cases r; rfl
  | ty _ => cases r; rfl
theorem RelV.inj {x y : V} {u : Value} (r : RelV x u) (q : RelV y u) : x = y := Option.some.inj (r.abs.symm.trans q.abs)
theorem Vals.inj : ∀ {xs ys : List V} {us : List Value}, Vals xs us → Vals ys us → xs = ys
  | _, _, _, .nil, .nil => rfl
  | _, _, _, .cons r t, .cons r' t' => by rw [r.inj r', Vals.inj t t']
section
variable {X : Cx} {pins : List (Addr × Obj)} {σ : St} {H : Hp} {s : Shared} {a : Addr} {xs ys : List V}
theorem SqL.of {K : PySem.W.Frag} (h : H a = some (.lst xs)) : SqL K H a xs := .inl (.inl h)
theorem SqT.of {K : PySem.W.Frag} (h : H a = some (.tup xs)) : SqT K H a xs := .inl (.inl h)
theorem Inv.list (I : Inv X pins σ H s) (h : SqL X.K H a xs) : ∃ its : List Value, Vals xs its ∧ PlainL s.heap a its.toArray ∧ xs.length ≤ sizeLine := by
  rcases h with h | ⟨o, its, n, hk, hc, hd, hs, hz, r⟩
  · obtain ⟨z, its, n, r, e⟩ := h.ok I.hok
    exact ⟨its, r, ⟨_, n, e, rfl, rfl, rfl⟩, z⟩
  · refine ⟨its.toList, r, ⟨o, n, I.kIn a o hk, hc, hd, by simpa using hs⟩, ?_⟩
    have e := r.length
    simp only [Array.length_toList] at e
    omega
theorem Inv.tuple (I : Inv X pins σ H s) (h : SqT X.K H a xs) : ∃ its : List Value, Vals xs its ∧ IsTup s.heap a its.toArray ∧ xs.length ≤ sizeLine := by
  rcases h with h | ⟨o, its, n, hk, hc, hs, hz, r⟩
  · obtain ⟨z, its, r, p⟩ := h.ok I.hok
    exact ⟨its, r, p, z⟩
  · refine ⟨its.toList, r, ⟨o, I.kIn a o hk, hc, n, by simpa using hs⟩, ?_⟩
    have e := r.length
    simp only [Array.length_toList] at e
    omega
end

/-! ### another wish about exceptions -/
abbrev Cx.wish (X : Cx) (E : Value → Shared → Prop) : Cx := { X with xe := E }
/-- no exception leaves -/
abbrev Cx.nox (X : Cx) : Cx := X.wish fun _ _ => False
theorem Cx.Ok.wish {X : Cx} (ok : X.Ok) (E : Value → Shared → Prop) : (X.wish E).Ok :=
  ⟨ok.mod, ok.kind, ok.glob, ok.blt, ok.above, ok.inj, ok.has, ok.cab, ok.hd, ok.frames, ok.stk, ok.exf, ok.bs, ok.bsz, ok.noex, ok.exfs, ok.funs, ok.frf⟩
theorem Cx.Ok.unwish {X : Cx} {E : Value → Shared → Prop} (ok : (X.wish E).Ok) : X.Ok :=
  ⟨ok.mod, ok.kind, ok.glob, ok.blt, ok.above, ok.inj, ok.has, ok.cab, ok.hd, ok.frames, ok.stk, ok.exf, ok.bs, ok.bsz, ok.noex, ok.exfs, ok.funs, ok.frf⟩
section
variable {X : Cx} {pins : List (Addr × Obj)} {σ : St} {H : Hp} {s : Shared} {E : Value → Shared → Prop}
theorem Inv.wish (I : Inv X pins σ H s) (E : Value → Shared → Prop) : Inv (X.wish E) pins σ H s := ⟨I.ok.wish E, I.os, I.bare, I.base, I.loc, I.cell, I.free, I.freeC, I.pin, I.hok, I.len⟩
theorem Inv.unwish (I : Inv (X.wish E) pins σ H s) : Inv X pins σ H s := ⟨I.ok.unwish, I.os, I.bare, I.base, I.loc, I.cell, I.free, I.freeC, I.pin, I.hok, I.len⟩
theorem SP.unwish {D : Ends} {f : Flow} {s' : Shared} (h : SP (X.wish E) pins D f s') : SP X pins D f s' := by
  cases f with
  | next => obtain ⟨σ', H', I, q⟩ := h; exact ⟨σ', H', I.unwish, q⟩
  | brk => obtain ⟨σ', H', I, q⟩ := h; exact ⟨σ', H', I.unwish, q⟩
  | cont => obtain ⟨σ', H', I, q⟩ := h; exact ⟨σ', H', I.unwish, q⟩
  | ret u => obtain ⟨v, σ', H', I, r, q⟩ := h; exact ⟨v, σ', H', I.unwish, r, q⟩
theorem PE.nox {e : Expr} {t : TE} (h : PE X.nox e t) : PE X e t := fun pins s σ H Q I hw =>
  wpAny_mono (h pins s σ H Q (I.wish _) hw) (fun _ _ ⟨v, H', I', r, q⟩ => ⟨v, H', I'.unwish, r, q⟩) fun _ _ z => False.elim z
theorem PT.nox {e : Expr} {t : TT} (h : PT X.nox e t) : PT X e t := fun pins s σ H Q I hw =>
  wpAny_mono (h pins s σ H Q (I.wish _) hw) (fun _ _ ⟨H', I', q⟩ => ⟨H', I'.unwish, q⟩) fun _ _ z => False.elim z
theorem PSs.nox {st : List Stmt} {t : TS} (h : PSs X.nox st t) : PSs X st t := fun pins s σ H D I hw =>
  wpAny_mono (h pins s σ H D (I.wish _) hw) (fun _ _ q => q.unwish) fun _ _ z => False.elim z
end

/-! ### blocks and small statements -/
section
variable {X : Cx} {st : Stmt} {rest : List Stmt} {t u : TS} {e : Expr} {te : TE} {pos : Pos}
def tNext : TS := fun D σ H => D.nx σ H
def tSeq (t u : TS) : TS := fun D σ H => t { D with nx := u D } σ H
def tBreak : TS := fun D σ H => D.bk σ H
def tCont : TS := fun D σ H => D.ct σ H
/-- an expression whose value is dropped -/
def tDrop (te : TE) : TS := fun D σ H => te σ H fun _ H1 => D.nx σ H1
def tRet (te : TE) : TS := fun D σ H => te σ H D.rt
def tRetN : TS := fun D _ H => D.rt .non H
def tIfS (c : TT) (t u : TS) : TS := fun D σ H => c σ H fun b H1 => if b = true then t D σ H1 else u D σ H1
/-- code that the proof never comes to -/
def tNever : TS := fun _ _ _ => False
end

/-! ### targets -/
abbrev TG := V → St → Hp → (St → Hp → Prop) → Prop
abbrev TGs := List V → St → Hp → (St → Hp → Prop) → Prop
def PG (X : Cx) (target : Expr) (t : TG) : Prop :=
  ∀ (pins : List (Addr × Obj)) (s : Shared) (σ : St) (H : Hp) (v : V) (u : Value) (Q : St → Hp → Prop), Inv X pins σ H s → RelV v u → t v σ H Q →
    wpAny (model X.prog X.w) X.A (assign target X.env u) (fun _ s' => ∃ σ' H', Inv X pins σ' H' s' ∧ Q σ' H') X.xe s
/-- several targets, one after another -/
def PGs (X : Cx) (ts : List Expr) (t : TGs) : Prop :=
  ∀ (pins : List (Addr × Obj)) (s : Shared) (σ : St) (H : Hp) (vs : List V) (us : List Value) (Q : St → Hp → Prop), Inv X pins σ H s → Vals vs us → t vs σ H Q →
    wpAny (model X.prog X.w) X.A (assignInOrder ((assignEach ts X.env).map (·.2)) us) (fun _ s' => ∃ σ' H', Inv X pins σ' H' s' ∧ Q σ' H') X.xe s
/-- o[i] = v, by values -/
abbrev TSet := V → V → V → Hp → (Hp → Prop) → Prop
def PSet (X : Cx) (t : TSet) : Prop :=
  ∀ (pins : List (Addr × Obj)) (s : Shared) (σ : St) (H : Hp) (o i v : V) (ov iv u : Value) (Q : Hp → Prop), Inv X pins σ H s → RelV o ov → RelV i iv → RelV v u → t o i v H Q →
    wpAny (model X.prog X.w) X.A (setItem ov iv u) (fun _ s' => ∃ H', Inv X pins σ H' s' ∧ Q H') X.xe s
/-- a op= b, by values -/
abbrev TIp := V → V → Hp → VK → Prop
def PIp (X : Cx) (op : Operator) (t : TIp) : Prop :=
  ∀ (pins : List (Addr × Obj)) (s : Shared) (σ : St) (H : Hp) (x y : V) (v u : Value) (Q : VK), Inv X pins σ H s → RelV x v → RelV y u → t x y H Q →
    wpAny (model X.prog X.w) X.A (inplaceOp op v u) (EP X pins σ Q) X.xe s
section
variable {X : Cx} {pos : Pos}
def gName (i : Nat) : TG := fun v σ H Q => Q (σ.set i (some v)) H
def gNil : TGs := fun vs σ H Q => vs = [] ∧ Q σ H
def gCons (t : TG) (u : TGs) : TGs := fun vs σ H Q => ∃ v r, vs = v :: r ∧ t v σ H fun σ' H' => u r σ' H' Q
/-- (a, b, ..) = a tuple of that length -/
def gTup (K : PySem.W.Frag) (n : Nat) (t : TGs) : TG := fun v σ H Q => ∃ a xs, v = .ref a ∧ SqT K H a xs ∧ xs.length = n ∧ t xs σ H Q
/-- o[i] = .. -/
def gSub (to ti : TE) (t : TSet) : TG := fun v σ H Q => to σ H fun o H1 => ti σ H1 fun i H2 => t o i v H2 fun H3 => Q σ H3
/-- target = value -/
def tAsg (te : TE) (g : TG) : TS := fun D σ H => te σ H fun x H1 => g x σ H1 D.nx
/-- a, b = x, y with plain local names: stored from the right; the pair itself is not tracked (the opening rows as in PyProof/Rows/TupAssign.lean:23) -/
def tPar (i j : Nat) (ta : TA) : TS := fun D σ H => ta σ H fun vs H1 => ∃ v w, vs = [v, w] ∧ D.nx ((σ.set i (some v)).set j (some w)) H1
/-- name op= e -/
def tAug (i : Nat) (te : TE) (ti : TIp) : TS := fun D σ H => ∃ x, σ[i]? = some (some x) ∧ te σ H fun y H1 => ti x y H1 fun z H2 => D.nx (σ.set i (some z)) H2
/-- o[i] op= e -/
def tAugS (to ti te : TE) (tget : V → V → Hp → VK → Prop) (tip : TIp) (tset : TSet) : TS := fun D σ H => to σ H fun o H1 => ti σ H1 fun i H2 => tget o i H2 fun x H3 => te σ H3 fun y H4 => tip x y H4 fun z H5 => tset o i z H5 fun H6 => D.nx σ H6
/-- o[i], by values -/
def PGet (X : Cx) (t : V → V → Hp → VK → Prop) : Prop :=
  ∀ (pins : List (Addr × Obj)) (s : Shared) (σ : St) (H : Hp) (o i : V) (ov iv : Value) (Q : VK), Inv X pins σ H s → RelV o ov → RelV i iv → t o i H Q →
    wpAny (model X.prog X.w) X.A (getItem ov iv) (EP X pins σ Q) X.xe s
/-- ints -/
def ipI (f : Int → Int → Int) : TIp := fun x y H Q => ∃ i j, x = .int i ∧ y = .int j ∧ Q (.int (f i j)) H
end

/-! ### while -/
section
variable {X : Cx} {pos : Pos}
/-- the invariant W with its measure -/
def tWhile (c : TT) (tb : TS) : TS := fun D σ H => ∃ W : Nat → St → Hp → Prop, (∃ m, W m σ H) ∧ ∀ m σ H, W m σ H →
  c σ H fun b H1 => if b = true then ∃ N : St → Hp → Prop, (∀ σ' H', N σ' H' → ∃ m', m' < m ∧ W m' σ' H') ∧ tb { D with nx := N, ct := N, bk := D.nx } σ H1 else D.nx σ H1
end

/-! ### what a loop or a comprehension walks -/
/-- at turn i: it yields x (the heap may grow), or it stops -/
structure It where
  go : Nat → Hp → Prop
  yld : Nat → Hp → V → Hp → Prop
  stop : Nat → Hp → Prop
/-- the iterator's own objects may turn: they are not the frame's, not pinned, younger than the entry (or a comprehension's own) -/
def FpOk (X : Cx) (pins : List (Addr × Obj)) (H : Hp) (b : Addr) : Prop :=
  H b = none ∧ b ≠ X.env.locals ∧ b ∉ X.fs ∧ (b ∈ X.ex ∨ X.s₀.heap.objs.size ≤ b) ∧ (∀ x c, X.env.cells.lookup x = some c → c ≠ b) ∧ ∀ p ∈ X.pn ++ pins, p.1 ≠ b
structure Turn (P : Program) (w : World) (K : PySem.W.Frag) (tg : Expr) (J : It) (fp : List Addr) (it : Addr) (tn : Nat → Heap → Prop) : Prop where
  mem : it ∈ fp
  obj : ∀ i h, tn i h → ∀ b ∈ fp, ∃ o, h.get? b = some o ∧ ∀ v, o.data ≠ .cell v
  keep : ∀ i h h', tn i h → (∀ b ∈ fp, ∀ o, h.get? b = some o → h'.get? b = some o) → tn i h'
  item : ∀ (X : Cx), X.prog = P → X.w = w → X.K = K → X.calm = true → ∀ (i : Nat) (pins : List (Addr × Obj)) (s : Shared) (σ : St) (H : Hp) (E : Value → Shared → Prop), Inv X pins σ H s → (∀ b ∈ fp, FpOk X pins H b) → tn i s.heap → J.go i H →
    wpAny (model P w) X.A (pyNext (.ref it)) (fun r s1 => ∃ u, r = some u ∧
      wpAny (model P w) X.A (letOwnedTupleGo tg (.ref it) u) (fun _ s2 => ∃ x H', Inv X pins σ H' s2 ∧ RelV x u ∧ J.yld i H x H' ∧ tn (i + 1) s2.heap ∧ ∀ b ∈ fp, H' b = none) E s1) E s
  done : ∀ (X : Cx), X.prog = P → X.w = w → X.K = K → X.calm = true → ∀ (i : Nat) (pins : List (Addr × Obj)) (s : Shared) (σ : St) (H : Hp) (E : Value → Shared → Prop), Inv X pins σ H s → (∀ b ∈ fp, FpOk X pins H b) → tn i s.heap → J.stop i H →
    wpAny (model P w) X.A (pyNext (.ref it)) (fun r s1 => r = none ∧ Inv X pins σ H s1) E s
  self : ∀ (A : Around) (i : Nat) (s : Shared) (Q : Value → Shared → Prop) (E : Value → Shared → Prop), tn i s.heap → Q (.ref it) s → wpAny (model P w) A (pyIter (.ref it)) Q E s
abbrev TI := St → Hp → (It → Hp → Prop) → Prop
/-- an iterator has come -/
def PIE (X : Cx) (pins : List (Addr × Obj)) (σ : St) (tg : Expr) (R : It → Hp → Prop) (itv : Value) (s2 : Shared) : Prop :=
  ∃ (it : Addr) (fp : List Addr) (tn : Nat → Heap → Prop) (J : It) (H' : Hp), itv = .ref it ∧ Inv X pins σ H' s2 ∧ Turn X.prog X.w X.K tg J fp it tn ∧ tn 0 s2.heap ∧ (∀ b ∈ fp, FpOk X pins H' b) ∧ R J H'
def PI (X : Cx) (tg iter : Expr) (wi : TI) : Prop :=
  ∀ (pins : List (Addr × Obj)) (s : Shared) (σ : St) (H : Hp) (R : It → Hp → Prop), Inv X pins σ H s → wi σ H R →
    wpAny (model X.prog X.w) X.A (eval iter X.env) (fun v s1 => wpAny (model X.prog X.w) X.A (pyIter v) (PIE X pins σ tg R) X.xe s1) X.xe s

/-- the list at a, as it stands at each turn (a loop may append to it) -/
def Itl (K : PySem.W.Frag) (a : Addr) : It :=
  ⟨fun i H => ∃ xs x, SqL K H a xs ∧ xs[i]? = some x, fun i H x H' => H' = H ∧ ∀ xs, SqL K H a xs → xs[i]? = some x, fun i H => ∃ xs, SqL K H a xs ∧ xs.length ≤ i⟩
def Itt (K : PySem.W.Frag) (a : Addr) : It :=
  ⟨fun i H => ∃ xs x, SqT K H a xs ∧ xs[i]? = some x, fun i H x H' => H' = H ∧ ∀ xs, SqT K H a xs → xs[i]? = some x, fun i H => ∃ xs, SqT K H a xs ∧ xs.length ≤ i⟩
/-- lo, lo + 1, .. (n of them) -/
def Itr (lo : Int) (n : Nat) : It := ⟨fun i _ => i < n, fun i H x H' => H' = H ∧ x = .int (lo + i), fun i _ => n ≤ i⟩
end L2

namespace L2
open PySem PySem.Spec PyProof.Rows
section
variable {X : Cx} {tg : Expr}
def iList (K : PySem.W.Frag) (tl : TE) : TI := fun σ H R => tl σ H fun x H1 => ∃ a, x = .ref a ∧ (∃ xs, SqL K H1 a xs) ∧ R (Itl K a) H1
def iTup (K : PySem.W.Frag) (tl : TE) : TI := fun σ H R => tl σ H fun x H1 => ∃ a, x = .ref a ∧ (∃ xs, SqT K H1 a xs) ∧ R (Itt K a) H1
def iRng1 (ta : TA) : TI := fun σ H R => ta σ H fun vs H1 => ∃ j : Int, vs = [.int j] ∧ -(2 ^ 62) ≤ j ∧ j < 2 ^ 62 ∧ R (Itr 0 j.toNat) H1
def iRng2 (ta : TA) : TI := fun σ H R => ta σ H fun vs H1 => ∃ i j : Int, vs = [.int i, .int j] ∧ (-(2 ^ 62) ≤ i ∧ i < 2 ^ 62 ∧ -(2 ^ 62) ≤ j ∧ j < 2 ^ 62) ∧ R (Itr i (j - i).toNat) H1
/-! ### for -/
/-- W: the invariant by the turn and a measure; N: what the body is to reach -/
def tFor (wi : TI) (g : TG) (tb : TS) : TS := fun D σ H => wi σ H fun J H1 => ∃ W : Nat → Nat → St → Hp → Prop, (∃ m, W 0 m σ H1) ∧ ∀ i m σ H, W i m σ H →
  (J.stop i H ∧ D.nx σ H) ∨ (J.go i H ∧ ∃ N : St → Hp → Prop, (∀ σ' H', N σ' H' → ∃ m', m' < m ∧ W (i + 1) m' σ' H') ∧ ∀ x H', J.yld i H x H' → g x σ H' fun σ2 H2 => tb { D with nx := N, ct := N, bk := D.nx } σ2 H2)
/-- the records at fp as they stand -/
def pinsAt (fp : List Addr) (h : Heap) : List (Addr × Obj) := fp.filterMap fun b => (h.get? b).map fun o => (b, o)
theorem of_pinsAt {fp : List Addr} {h : Heap} {p : Addr × Obj} (hp : p ∈ pinsAt fp h) : p.1 ∈ fp ∧ h.get? p.1 = some p.2 := by
  obtain ⟨b, hb, e⟩ := List.mem_filterMap.mp hp
  cases q : h.get? b with
  | none => rw [q] at e; cases e
  | some o =>
    rw [q] at e
    have e' : (b, o) = p := Option.some.inj e
    subst e'
    exact ⟨hb, q⟩
theorem Inv.pinned {pins : List (Addr × Obj)} {σ : St} {H : Hp} {s : Shared} {fp : List Addr} (I : Inv X pins σ H s) (hf : ∀ b ∈ fp, FpOk X pins H b) (ho : ∀ b ∈ fp, ∃ o, s.heap.get? b = some o ∧ ∀ v, o.data ≠ .cell v) : Inv X (pins ++ pinsAt fp s.heap) σ H s :=
  I.pins_of fun p hp => (List.mem_append.mp hp).elim (fun z => I.pin p (List.mem_append_right _ z)) fun z => by
    obtain ⟨hb, e⟩ := of_pinsAt z
    obtain ⟨f0, f1, f2, _⟩ := hf p.1 hb
    obtain ⟨o, e', d⟩ := ho p.1 hb
    rw [e] at e'; cases e'
    exact ⟨e, f0, f1, f2, d⟩
end

/-! ### the forms one uses -/
end L2

namespace L2
open PySem PySem.Spec PyProof.Rows

abbrev R2 := V → V → Hp → VK → Prop
/-- a two-place operation on values: f is binaryOp op, inplaceOp op or compareOp op -/
def OpR (X : Cx) (f : Value → Value → Sem Value) (r : R2) : Prop :=
  ∀ (pins : List (Addr × Obj)) (s : Shared) (σ : St) (H : Hp) (x y : V) (v u : Value) (Q : VK), Inv X pins σ H s → RelV x v → RelV y u → r x y H Q →
    wpAny (model X.prog X.w) X.A (f v u) (EP X pins σ Q) X.xe s
/-- a one-place operation -/
def UnR (X : Cx) (f : Value → Sem Value) (r : V → Hp → VK → Prop) : Prop :=
  ∀ (pins : List (Addr × Obj)) (s : Shared) (σ : St) (H : Hp) (x : V) (v : Value) (Q : VK), Inv X pins σ H s → RelV x v → r x H Q →
    wpAny (model X.prog X.w) X.A (f v) (EP X pins σ Q) X.xe s
/-- a call of a value that is known (a builtin, a type) with values -/
def CallR (X : Cx) (f : Value) (r : List V → Hp → VK → Prop) : Prop :=
  ∀ (pins : List (Addr × Obj)) (s : Shared) (σ : St) (H : Hp) (xs : List V) (us : List Value) (Q : VK), Inv X pins σ H s → Vals xs us → r xs H Q →
    wpAny (model X.prog X.w) X.A (call f us) (EP X pins σ Q) X.xe s
/-- a value's truth -/
def TruR (X : Cx) (r : V → Hp → (Bool → Hp → Prop) → Prop) : Prop :=
  ∀ (pins : List (Addr × Obj)) (s : Shared) (σ : St) (H : Hp) (x : V) (v : Value) (Q : Bool → Hp → Prop), Inv X pins σ H s → RelV x v → r x H Q →
    wpAny (model X.prog X.w) X.A (truthy v) (TP X pins σ Q) X.xe s

def tOp (r : R2) (ta tb : TE) : TE := fun σ H Q => ta σ H fun x H1 => tb σ H1 fun y H2 => r x y H2 Q
def tUn (r : V → Hp → VK → Prop) (ta : TE) : TE := fun σ H Q => ta σ H fun x H1 => r x H1 Q
/-- ints in, under C, and a value out -/
def rI (C : Int → Int → Prop) (g : Int → Int → V) : R2 := fun x y H Q => ∃ i j, x = .int i ∧ y = .int j ∧ C i j ∧ Q (g i j) H
def rI0 (g : Int → Int → V) : R2 := fun x y H Q => ∃ i j, x = .int i ∧ y = .int j ∧ Q (g i j) H
def rU (g : Int → V) : V → Hp → VK → Prop := fun x H Q => ∃ i, x = .int i ∧ Q (g i) H

section
variable {X : Cx} {a b c : Expr} {ta tb tc : TE} {pos : Pos}

/-! ### ints -/
def CDiv (i j : Int) : Prop := 0 < j ∧ j < 1073741824
def CDivN (i j : Int) : Prop := j ≠ 0 ∧ j.natAbs < 1073741824
def CPow (i j : Int) : Prop := 0 ≤ j ∧ j ≤ 1000000 ∧ i.natAbs < 2 ^ 64
def CMul (i j : Int) : Prop := (-(2 ^ 64) < i ∧ i < 2 ^ 64) ∨ (-(2 ^ 64) < j ∧ j < 2 ^ 64)
theorem CMul.ok {i j : Int} (h : CMul i j) : IntMulOk i j := by
  rcases h with ⟨h1, h2⟩ | ⟨h1, h2⟩
  · exact .of_left (intBits_le_64 h1 h2)
  · exact .of_right (intBits_le_64 h1 h2)
/-! ### bools among ints: n += (a < b) -/
end

/-! ### comparisons -/
/-- the scalars that == tells apart as data does -/
def scal : V → V → Bool
  | .non, .non => true | .non, .int _ => true | .int _, .non => true | .non, .bl _ => true | .bl _, .non => true | .non, .str _ => true | .str _, .non => true
  | .int _, .int _ => true | .bl _, .bl _ => true | .str _, .str _ => true | .byt _, .byt _ => true
  | .int _, .str _ => true | .str _, .int _ => true | .bl _, .str _ => true | .str _, .bl _ => true
  | _, _ => false
def rEq : R2 := fun x y H Q => scal x y = true ∧ Q (.bl (decide (x = y))) H
def rNe : R2 := fun x y H Q => scal x y = true ∧ Q (.bl (!decide (x = y))) H

section
variable {X : Cx} {a b c : Expr} {ta tb tc : TE} {pos : Pos}
/-- is, is not of two objects that are tracked lists or instances -/
def isObj : HO → Bool
  | .lst _ => true
  | .ins _ _ _ => true
  | _ => false
/-- two rules for one operation: by cases -/
theorem OpR.or {f : Value → Value → Sem Value} {r r' : R2} (h : OpR X f r) (h' : OpR X f r') : OpR X f (fun x y H Q => r x y H Q ∨ r' x y H Q) := by
  intro pins s σ H x y v u Q I rx ry q
  rcases q with q | q
  · exact h pins s σ H x y v u Q I rx ry q
  · exact h' pins s σ H x y v u Q I rx ry q

/-- a reading of a value as a test -/
def tTest (t : TE) : TT := fun σ H Q => t σ H fun x H' => ∃ k, x = .bl k ∧ Q k H'
/-- a op1 b op2 c -/
def tChain (r r' : R2) (ta tb tc : TE) : TE := fun σ H Q => ta σ H fun x H1 => tb σ H1 fun y H2 => r x y H2 fun z H3 => ∃ k, z = .bl k ∧
  (if k = true then tc σ H3 fun w' H4 => r' y w' H4 Q else Q (.bl false) H3)
/-! ### truth -/
/-- a value's truth by the abstract heap -/
def TruV (K : PySem.W.Frag) (x : V) (H : Hp) (k : Bool) : Prop :=
  match x with
  | .non => k = false
  | .bl b => k = b
  | .int i => k = (i != 0)
  | .str y => y.length ≤ sizeLine ∧ k = ((y.length : Int) != 0)
  | .byt y => y.size ≤ sizeLine ∧ k = ((y.size : Int) != 0)
  | .ref p => (∃ xs, SqL K H p xs ∧ k = !xs.isEmpty) ∨ (∃ xs, SqT K H p xs ∧ k = !xs.isEmpty) ∨ ∃ kvs, H p = some (.dK kvs) ∧ k = !kvs.isEmpty
  | _ => False
theorem line63 : (sizeLine : Nat) < 2 ^ 63 := by rw [sizeLine_eq]; decide
/-! ### strs and bytes -/
def PlainIxT (b : Expr) : Prop := ∀ o i, subscripted b false o i = operate [o, i] (getItem o i)
/-! ### scalar builtins, by CallR -/
/-- len of a str, a bytes, a list, a tuple -/
def LenV (K : PySem.W.Frag) (x : V) (H : Hp) (n : Nat) : Prop :=
  match x with
  | .str y => y.length ≤ sizeLine ∧ n = y.length
  | .byt y => y.size ≤ sizeLine ∧ n = y.size
  | .ref p => (∃ xs, SqL K H p xs ∧ n = xs.length) ∨ ∃ xs, SqT K H p xs ∧ n = xs.length
  | _ => False
end
end L2

namespace L2
open PySem PySem.Spec PyProof.Rows

/-! ### an instance, its attributes a map -/
structure ObjM (h : Heap) (x dx C : Addr) (mA : Str → Option Value) : Prop where
  obj : h.get? x = some (PySem.W.instObj C dx)
  ns : h.Ns1 dx mA
  ne : dx ≠ x

theorem lookIn_ns {h : Heap} {dx : Addr} {mA : Str → Option Value} (n : h.Ns1 dx mA) : ∃ od, h.get? dx = some od ∧ ∀ name, PySem.W.lookIn name od = some (mA name) := by
  obtain ⟨o, es, ep, ho, hd, hk, _, hm⟩ := n
  refine ⟨o, ho, fun name => ?_⟩
  have e := hm name
  unfold nsFind findBy at e
  rw [← Array.find?_toList] at e
  unfold PySem.W.lookIn
  rw [hd]
  dsimp only
  split
  · rename_i y q
    rw [q] at e
    exact congrArg some e
  · rename_i q
    rw [q] at e
    have a : es.toList.any (·.refKey) = false := by
      rw [List.any_eq_false]
      intro y hy
      obtain ⟨z, t, hkey⟩ := hk y (Array.mem_toList_iff.mp hy)
      simp [DictEntry.refKey, hkey]
    have a' : ¬ es.toList.any (·.refKey) = true := by rw [a]; exact Bool.false_ne_true
    rw [if_neg a']
    exact congrArg some e

theorem ObjM.look {h : Heap} {x dx C : Addr} {mA : Str → Option Value} (I : ObjM h x dx C mA) : ∃ od, PySem.W.InstAt h x (PySem.W.instObj C dx) C (some od) ∧ ∀ name, PySem.W.lookIn name od = some (mA name) :=
  let ⟨od, ho, hl⟩ := lookIn_ns I.ns
  ⟨od, ⟨I.obj, rfl, rfl, ho⟩, hl⟩

section
variable {prog : Program} {w : World} {A : Around} {E : Value → Shared → Prop} {s : Shared} {K : PySem.W.Frag} {x dx C f : Addr} {mA : Str → Option Value} {name : Str} {v : Value}

end

/-! ### the attributes as a list of pairs -/
def putF (f : Str) (v : V) : List (Str × V) → List (Str × V)
  | [] => [(f, v)]
  | (g, x) :: r => if g = f then (g, v) :: r else (g, x) :: putF f v r
theorem RelO.none_of {o : Option Value} (r : RelO none o) : o = none := by
  cases o with
  | none => rfl
  | some u => exact (show False from r).elim
section
variable {P : Program} {w : World} {H H' : Hp} {h h' : Heap} {a C dx : Addr} {fs fs' : List (Str × V)}
end

/-! ### what of the text a class must have -/
structure Cls (K : PySem.W.Frag) (C : Addr) : Prop where
  pg : PySem.W.plainGet K C Str.empty = true
  hd : PySem.W.hasDictIn K C = true
  po : PySem.W.plainOver K C = true
  sa : PySem.W.findIn K (.ref C) "__setattr__" = some (some (.builtin "object.__setattr__"))
theorem Cls.get {K : PySem.W.Frag} {C : Addr} (c : Cls K C) (f : Str) : PySem.W.plainGet K C f = true := c.pg
/-- no class of it has the name -/
def NoAttr (K : PySem.W.Frag) (C : Addr) (f : Str) : Prop := PySem.W.findIn K (.ref C) f = some none
/-- a constant of the class -/
structure Con (K : PySem.W.Frag) (C : Addr) (f : Str) (v : V) (u : Value) : Prop where
  at_ : PySem.W.findIn K (.ref C) f = some (some u)
  rel : RelV v u
  get : PySem.W.specialIn K u "__get__" = some none
  cp : PySem.W.copiedNames.contains f = false
/-- a method: a plain def of the class or of one above it -/
structure Meth (K : PySem.W.Frag) (C : Addr) (m : Str) (f : Addr) : Prop where
  at_ : PySem.W.findIn K (.ref C) m = some (some (.ref f))
  fn : PySem.W.isFn K (.ref f) = true
  kp : PySem.W.keepIn K (.ref f) = true

section
variable {X : Cx} {pins : List (Addr × Obj)} {σ : St} {H : Hp} {s : Shared} {a C dx : Addr} {fs : List (Str × V)} {f : Str} {v : V} {A : Around} {E : Value → Shared → Prop}

/-- a new instance, tracked, without attributes -/
theorem Inv.made (I : Inv X pins σ H s) : Inv X pins σ (upd (upd H s.heap.objs.size (.own (s.heap.objs.size + 1))) (s.heap.objs.size + 1) (.ins C s.heap.objs.size []))
    { s with heap := (s.heap.push PySem.W.emptyDict).push (PySem.W.instObj C s.heap.objs.size) } := by
  have e1 : (s.heap.push PySem.W.emptyDict).get? s.heap.objs.size = some PySem.W.emptyDict := Heap.get?_push_size s.heap rfl
  have e2 : ((s.heap.push PySem.W.emptyDict).push (PySem.W.instObj C s.heap.objs.size)).get? (s.heap.objs.size + 1) = some (PySem.W.instObj C s.heap.objs.size) := by
    have := Heap.get?_push_size (s.heap.push PySem.W.emptyDict) (o := PySem.W.instObj C s.heap.objs.size) rfl
    rwa [Heap.size_push] at this
  have e3 : (s.heap.push PySem.W.emptyDict).Ns s.heap.objs.size (fun _ => none) := ⟨PySem.W.emptyDict, #[], _, e1, rfl, (fun e he => absurd he (by simp)), fun _ => rfl⟩
  have I1 := I.laid (a := s.heap.objs.size) (o := .own (s.heap.objs.size + 1)) (h' := s.heap.push PySem.W.emptyDict) (t' := s.toks) (fun b u q => Heap.get?_push_of_some _ q) (Nat.le_refl _) ⟨_, e1⟩
  refine I1.laid (a := s.heap.objs.size + 1) (o := .ins C s.heap.objs.size []) (t' := s.toks) (fun b u q => Heap.get?_push_of_some _ q) (Nat.le_of_eq (Heap.size_push _ _)) ?_
  have ne : s.heap.objs.size ≠ s.heap.objs.size + 1 := Nat.ne_of_lt (Nat.lt_succ_self _)
  refine ⟨by rw [upd_ne ne, upd_same], Nat.zero_le _, ne, e2, fun _ => none, (Heap.Ns1.of_empty e3).at fun o q => Heap.get?_push_of_some _ q, fun _ => True.intro, fun y hy => absurd rfl hy⟩

end

/-! ### readings and rules -/
/-- e.f, an attribute of the instance -/
def tFld (K : PySem.W.Frag) (ta : TE) (f : Str) : TE := fun σ H Q => ta σ H fun x H1 => ∃ a C dx fs v, x = .ref a ∧ H1 a = some (.ins C dx fs) ∧ Cls K C ∧ NoAttr K C f ∧ fs.lookup f = some v ∧ Q v H1
/-- e.f, a constant of the class -/
def tCon (K : PySem.W.Frag) (ta : TE) (f : Str) : TE := fun σ H Q => ta σ H fun x H1 => ∃ a C dx fs v u, x = .ref a ∧ H1 a = some (.ins C dx fs) ∧ Cls K C ∧ Con K C f v u ∧ fs.lookup f = none ∧ Q v H1
/-- e.f = value -/
def sFld (K : PySem.W.Frag) (ta tv : TE) (f : Str) : TS := fun D σ H => tv σ H fun y H1 => ta σ H1 fun x H2 => ∃ a C dx fs, x = .ref a ∧ H2 a = some (.ins C dx fs) ∧ Cls K C ∧ NoAttr K C f ∧ fs.length < 1000 ∧
  D.nx σ (upd H2 a (.ins C dx (putF f y fs)))
/-- an augmented operator on two values -/
def InOp (X : Cx) (op : Operator) (rd : V → V → Hp → VK → Prop) : Prop :=
  ∀ (pins : List (Addr × Obj)) (s : Shared) (σ : St) (H : Hp) (x y : V) (u v : Value) (Q : VK), Inv X pins σ H s → RelV x u → RelV y v → rd x y H Q → wpAny (model X.prog X.w) X.A (inplaceOp op u v) (EP X pins σ Q) X.xe s
/-- e.f op= value -/
def sFldAug (K : PySem.W.Frag) (ta tv : TE) (rd : V → V → Hp → VK → Prop) (f : Str) : TS := fun D σ H => ta σ H fun x H1 => ∃ a C dx fs v, x = .ref a ∧ H1 a = some (.ins C dx fs) ∧ Cls K C ∧ NoAttr K C f ∧ fs.lookup f = some v ∧
  tv σ H1 fun y H2 => rd v y H2 fun z H3 => ∃ dx' fs', H3 a = some (.ins C dx' fs') ∧ fs'.length < 1000 ∧ D.nx σ (upd H3 a (.ins C dx' (putF f z fs')))

section
variable {X : Cx} {o e value : Expr} {f : Str} {pos pos' tpos : Pos} {ta tv : TE}
def rAdd : V → V → Hp → VK → Prop := fun x y H Q => ∃ i j, x = .int i ∧ y = .int j ∧ Q (.int (i + j)) H
def rSub : V → V → Hp → VK → Prop := fun x y H Q => ∃ i j, x = .int i ∧ y = .int j ∧ Q (.int (i - j)) H
end

/-! ### isinstance -/
section
variable {X : Cx} {pins : List (Addr × Obj)} {σ : St} {H : Hp} {s : Shared} {A : Around} {E : Value → Shared → Prop} {Q : Value → Shared → Prop} {c : Value} {b : Bool}
/-- the type of a value, as the fragment's deciders take it; for an instance its class -/
inductive TyOf (K : PySem.W.Frag) (H : Hp) : V → Value → Prop where
  | non : TyOf K H .non (.type "NoneType")
  | bl (x : Bool) : TyOf K H (.bl x) (.type "bool")
  | int (i : Int) : TyOf K H (.int i) (.type "int")
  | str (x : Str) : TyOf K H (.str x) (.type "str")
  | flt (x : UInt64) : TyOf K H (.flt x) (.type "float")
  | lst {a : Addr} {xs : List V} (e : H a = some (.lst xs)) : TyOf K H (.ref a) (.type "list")
  | frz {a : Addr} {o : Obj} {xs : List V} (e : H a = some (.frz o (.lst xs))) : TyOf K H (.ref a) (.type "list")
  | tup {a : Addr} {xs : List V} (e : H a = some (.tup xs)) : TyOf K H (.ref a) (.type "tuple")
  | dK {a : Addr} {kvs : List (Key × V)} (e : H a = some (.dK kvs)) : TyOf K H (.ref a) (.type "dict")
  | dT {a : Addr} {kvs : List (List Key × V)} (e : H a = some (.dT kvs)) : TyOf K H (.ref a) (.type "dict")
  | ins {a C dx : Addr} {fs : List (Str × V)} (e : H a = some (.ins C dx fs)) (cl : Cls K C) (ha : PySem.W.findIn K (.ref C) "__class__" = some (some (.builtin "object.__class__")))
      (hn : PySem.W.specialIn K (.builtin "object.__class__") "__get__" = some (some (.builtin "getset_descriptor.__get__"))) (htk : PySem.W.takesIn K (.builtin "object.__class__") = some true)
      (hm : PySem.W.mroIn K C (.type "object") = some true) : TyOf K H (.ref a) (.ref C)
end
end L2

namespace L2
open PySem PySem.Spec PyProof.Rows

/-! ### room -/
structure Room (k : Nat) (A : Around) : Prop where
  hd : A.handled = none
  dp : A.depth + 3 * k + 5 < recursionLimit
  un : A.units + 16 * k + 200 < cLine
theorem Room.mono {j k : Nat} {A : Around} (r : Room k A) (h : j ≤ k) : Room j A := ⟨r.hd, by have := r.dp; omega, by have := r.un; omega⟩
theorem Room.deeper {k : Nat} {A : Around} (r : Room (k + 1) A) (env : Env) : Room k (A.deeper env) :=
  ⟨r.hd, by have := r.dp; show A.depth + 1 + 3 * k + 5 < _; omega, by have := r.un; show A.units + 3 + 16 * k + 200 < _; omega⟩
theorem Room.in1 {k : Nat} {A : Around} (r : Room (k + 1) A) : Room k A.in1 :=
  ⟨r.hd, by have := r.dp; show A.depth + 3 * k + 5 < _; omega, by have := r.un; show A.units + 1 + 16 * k + 200 < _; omega⟩
theorem make_depth {A : Around} {C : Addr} {us : List Value} {kw : List (Str × Value)} : (A.under (.builtin "type.__call__" ⟨.ref C :: us, kw⟩)).depth = A.depth + 1 := by
  first | rfl | simp [Around.under, Code.weight, Code.isCreation, Code.isGuard, Code.isCaller, Code.frames, Code.isFrame, guardIds]
theorem make_units {A : Around} {C : Addr} {us : List Value} {kw : List (Str × Value)} : (A.under (.builtin "type.__call__" ⟨.ref C :: us, kw⟩)).units = A.units + 1 := by
  first | rfl | simp [Around.under, Code.cUnits, Code.frames, Code.isFrame]
theorem Room.make {k : Nat} {A : Around} (r : Room (k + 1) A) (C : Addr) (us : List Value) (kw : List (Str × Value)) : Room k (A.under (.builtin "type.__call__" ⟨.ref C :: us, kw⟩)) :=
  ⟨r.hd, by have := r.dp; rw [make_depth]; omega, by have := r.un; rw [make_units]; omega⟩
theorem Room.depth {k : Nat} {A : Around} (r : Room k A) : A.depth < recursionLimit := by have := r.dp; omega
theorem Room.units {k : Nat} {A : Around} (r : Room k A) : A.units + 64 < cLine := by have := r.un; omega
/-! ### argument lists and displays -/
def tNil : TA := fun _ H Q => Q [] H
def tCons (ta : TE) (tr : TA) : TA := fun σ H Q => ta σ H fun x H1 => tr σ H1 fun xs H2 => Q (x :: xs) H2
section
variable {X : Cx} {e : Expr} {es : List Expr} {te : TE} {t : TA} {pos : Pos}
/-- a tuple, a list of written items -/
def tTup (t : TA) : TE := fun σ H Q => t σ H fun xs H1 => xs.length ≤ sizeLine ∧ ∀ p, H1 p = none → Q (.ref p) (upd H1 p (.tup xs))
def tLst (t : TA) : TE := fun σ H Q => t σ H fun xs H1 => xs.length ≤ sizeLine ∧ ∀ p, H1 p = none → Q (.ref p) (upd H1 p (.lst xs))
end

/-! ### what a def promises -/
/-- a def's promise: the bound arguments in the parameters' order, the heap, the wanted end, the wanted exception -/
abbrev Sp := List V → Hp → VK → XK → Prop
/-- how an exception lies behind a call (file 08 gives it): the callers' frames, abstract heap and state ahead of the call, the wish, the exception, the state -/
abbrev CXT := List Env → Hp → Shared → XK → Value → Shared → Prop

/-- the state at a call -/
structure Env0 (P : Program) (w : World) (K : PySem.W.Frag) (mg : Str → Option Value) (base : Heap) (A : Around) (outer : List Env) (s : Shared) (H : Hp) : Prop where
  frames : A.frames = some outer
  mod : Mod K mg base
  bs : ∀ b o, base.get? b = some o → s.heap.get? b = some o ∧ H b = none
  bsz : base.objs.size ≤ s.heap.objs.size
  funs : s.heap.FunFrames base outer
  frf : ∀ b ∈ frs outer, H b = none
  hok : HOk P w H s.heap
  bare : AllBare s.gens
/-- a call's end -/
def CE (outer : List Env) (P : Program) (w : World) (H : Hp) (s : Shared) (Q : VK) (u : Value) (s' : Shared) : Prop :=
  ∃ v H', s'.os = s.os ∧ AllBare s'.gens ∧ Un (frs outer) [] H H' s.heap s'.heap ∧ HOk P w H' s'.heap ∧ RelV v u ∧ Q v H'
def CR (CX : CXT) (outer : List Env) (P : Program) (w : World) (H : Hp) (s : Shared) (Q : VK) (E : XK) (r : Result) (s' : Shared) : Prop :=
  match r with
  | .ok (.ret u) => CE outer P w H s Q u s'
  | .ok _ => False
  | .error e => CX outer H s E e s'
structure FnOk (P : Program) (w : World) (K : PySem.W.Frag) (mg : Str → Option Value) (base : Heap) (CX : CXT) (k : Nat) (f : Addr) (fd : FuncData) (ps : List Str) (sp : Sp) : Prop where
  len : ∀ vs H Q E, sp vs H Q E → vs.length = ps.length
  run : ∀ (A : Around) (outer : List Env) (s : Shared) (H : Hp) (args : Args) (us : List Value) (vs : List V) (Q : VK) (E : XK), Room k A → Env0 P w K mg base A outer s H → BindsTo s fd args (ps.zip us) → Vals vs us → sp vs H Q E →
    codeAny (model P w) A (.call (.ref f) args) (CR CX outer P w H s Q E) s
theorem FnOk.mono {P : Program} {w : World} {K : PySem.W.Frag} {mg : Str → Option Value} {base : Heap} {CX : CXT} {j k : Nat} {f : Addr} {fd : FuncData} {ps : List Str} {sp : Sp} (F : FnOk P w K mg base CX j f fd ps sp) (h : j ≤ k) :
    FnOk P w K mg base CX k f fd ps sp := ⟨F.len, fun A outer s H args us vs Q E hr => F.run A outer s H args us vs Q E (hr.mono h)⟩
theorem Env0.make {P : Program} {w : World} {K : PySem.W.Frag} {mg : Str → Option Value} {base : Heap} {A : Around} {outer : List Env} {s : Shared} {H : Hp} (e : Env0 P w K mg base A outer s H) (C : Addr) (us : List Value) (kw : List (Str × Value)) :
    Env0 P w K mg base (A.under (.builtin "type.__call__" ⟨.ref C :: us, kw⟩)) outer s H := ⟨by first | exact e.frames | (simpa [Around.under, Code.envs, Code.isFrame, pushEnvs] using e.frames), e.mod, e.bs, e.bsz, e.funs, e.frf, e.hok, e.bare⟩
theorem Env0.in1 {P : Program} {w : World} {K : PySem.W.Frag} {mg : Str → Option Value} {base : Heap} {A : Around} {outer : List Env} {s : Shared} {H : Hp} (e : Env0 P w K mg base A outer s H) :
    Env0 P w K mg base A.in1 outer s H := ⟨e.frames, e.mod, e.bs, e.bsz, e.funs, e.frf, e.hok, e.bare⟩

section
variable {X : Cx} {pins : List (Addr × Obj)} {σ : St} {H : Hp} {s s' : Shared}
/-- behind a call -/
theorem Inv.after {Q : VK} {u : Value} (I : Inv X pins σ H s) (h : CE X.stack X.prog X.w H s Q u s') : EP X pins σ Q u s' := by
  obtain ⟨v, H', os, bare, un, hok, r, q⟩ := h
  obtain ⟨hh, g, d, t, os'⟩ := s'
  obtain rfl : os' = s.os := os
  exact ⟨v, H', I.call (h' := hh) (g' := g) (d' := d) (t' := t) (ch := []) un hok bare (fun b z => absurd z (by simp)), r, q⟩
end

/-! ### calls -/
/-- f(..): the written arguments, then the defaults dvs; E: what is wanted of an exception -/
def tCall (sp : Sp) (dvs : List V) (E : XK) (t : TA) : TE := fun σ H Q => t σ H fun vs H1 => sp (vs ++ dvs) H1 Q E
/-- o.m(..) of an instance of the class at C -/
def tMeth (C : Addr) (m : Str) (sp : Sp) (dvs : List V) (E : XK) (ta : TE) (t : TA) : TE := fun σ H Q => ta σ H fun x H1 => ∃ a dx fs, x = .ref a ∧ H1 a = some (.ins C dx fs) ∧ fs.lookup m = none ∧
  t σ H1 fun vs H2 => sp (x :: (vs ++ dvs)) H2 Q E
/-- C(..): a new instance and its dict, then __init__ -/
def tMake (C : Addr) (sp : Sp) (dvs : List V) (E : XK) (t : TA) : TE := fun σ H Q => t σ H fun vs H1 => ∀ x dx, H1 x = none → H1 dx = none → dx ≠ x →
  sp (.ref x :: (vs ++ dvs)) (upd (upd H1 dx (.own x)) x (.ins C dx [])) (fun v H2 => v = .non ∧ Q (.ref x) H2) E

/-- how the parameters are bound: us the positional arguments, kw the keywords' values by name, ds the defaults that fill up -/
def Binds (K : PySem.W.Frag) (fd : FuncData) (ps : List Str) (ds : List Value) : Prop :=
  ∀ (s : Shared) (us : List Value), K.In s.heap → (us ++ ds).length = ps.length → BindsTo s fd ⟨us, []⟩ (ps.zip (us ++ ds))
/-- every parameter is given -/
theorem Binds.all {K : PySem.W.Frag} {fd : FuncData} {ps : List Str} (h : ∀ us : List Value, us.length = ps.length → bindArgs fd ⟨us, []⟩ = pure (ps.zip us)) : Binds K fd ps [] := fun s us _ hl => by
  rw [List.append_nil] at hl ⊢
  exact .of_eq (h us hl)

/-- an exception of a callee reaches what this body wants of exceptions -/
def Passes (CX : CXT) (X : Cx) (E : XK) : Prop := ∀ (pins : List (Addr × Obj)) (σ : St) (H : Hp) (s : Shared) (e : Value) (s' : Shared), Inv X pins σ H s → CX X.stack H s E e s' → X.xe e s'

section
variable {X : Cx} {CX : CXT} {k : Nat} {f C : Addr} {fd : FuncData} {ps : List Str} {sp : Sp} {dvs : List V} {ds : List Value} {E : XK} {x m : Str} {p pos apos : Pos} {e o : Expr} {es : List Expr} {ta : TE} {t : TA}

/-- what a class must have to be made -/
structure Mk (K : PySem.W.Frag) (C f : Addr) : Prop where
  makes : PySem.W.makesIn K C = true
  init : PySem.W.findIn K (.ref C) "__init__" = some (some (.ref f))
  fn : PySem.W.isFn K (.ref f) = true
  kp : PySem.W.keepIn K (.ref C) = true

end

/-! ### keywords -/
/-- the values of the keywords, from the left -/
def PK (X : Cx) (kws : List Keyword) (t : TA) : Prop :=
  ∀ (pos : Pos) (pins : List (Addr × Obj)) (s : Shared) (σ : St) (H : Hp) (Q : List V → Hp → Prop), Inv X pins σ H s → t σ H Q → wpAny (model X.prog X.w) X.A (evalAll ((backToKw pos (keywordEach kws X.env)).map (·.2))) (AP X pins σ Q) X.xe s
section
variable {X : Cx} {CX : CXT} {k : Nat} {f C : Addr} {fd : FuncData} {ps ks : List Str} {sp : Sp} {E : XK} {x m : Str} {p pos apos kpos : Pos} {e o : Expr} {es : List Expr} {kws : List Keyword} {te ta : TE} {t tk : TA} {nm : Option Str}
/-- how a call with keywords binds: g puts the positional values us and the keywords' values ws (names ks) in the parameters' order, defaults among them -/
structure KBinds (K : PySem.W.Frag) (fd : FuncData) (ps ks : List Str) (g : List Value → List Value → List Value) (gV : List V → List V → List V) : Prop where
  to : ∀ (s : Shared) (us ws : List Value), K.In s.heap → (g us ws).length = ps.length → BindsTo s fd ⟨us, ks.zip ws⟩ (ps.zip (g us ws))
  rel : ∀ {vs : List V} {us : List Value} {zs : List V} {ws : List Value}, Vals vs us → Vals zs ws → Vals (gV vs zs) (g us ws)
def tCallK (sp : Sp) (gV : List V → List V → List V) (E : XK) (t tk : TA) : TE := fun σ H Q => t σ H fun vs H1 => tk σ H1 fun zs H2 => sp (gV vs zs) H2 Q E
variable {g : List Value → List Value → List Value} {gV : List V → List V → List V}
end

/-! ### a def's body keeps its promise -/
/-- names: the parameters first -/
structure FnScope (N P : List Str) (sc : Scope) : Prop where
  kind : sc.kind = .function
  co : sc.isCoroutine = false
  gen : sc.isGenerator = false
  nd : N.Nodup
  pre : N.take P.length = P
  par : ∀ x ∈ P, sc.names.lookup x = some .local ∨ sc.names.lookup x = some .cell
  nofree : ∀ y ∈ sc.names, y.2 ≠ .free

theorem bindL_out {kindOf : Str → Option NameKind} {x : Str} : ∀ {binds : List (Str × Value)} {m : Str → Option Value}, (∀ v, (x, v) ∉ binds) → bindL kindOf binds m x = m x
  | [], _, _ => rfl
  | (n, v) :: r, m, h => by
    unfold bindL
    rw [bindL_out fun w hw => h w (List.mem_cons_of_mem _ hw)]
    split
    · have : x ≠ n := by rintro rfl; exact h v List.mem_cons_self
      simp [this]
    · rfl
theorem bindC_out {kindOf : Str → Option NameKind} {x : Str} : ∀ {binds : List (Str × Value)} {m : Str → Option Value}, (∀ v, (x, v) ∉ binds) → bindC kindOf binds m x = m x
  | [], _, _ => rfl
  | (n, v) :: r, m, h => by
    unfold bindC
    rw [bindC_out fun w hw => h w (List.mem_cons_of_mem _ hw)]
    split
    · rfl
    · have : x ≠ n := by rintro rfl; exact h v List.mem_cons_self
      simp [this]
theorem bindL_get {kindOf : Str → Option NameKind} {x : Str} {v : Value} : ∀ {P : List Str} {vs : List Value} {i : Nat} {m : Str → Option Value}, P.Nodup → P[i]? = some x → vs[i]? = some v → kindOf x = some .local →
    bindL kindOf (P.zip vs) m x = some v
  | [], _, _, _, _, h, _, _ => by simp at h
  | _ :: _, [], _, _, _, _, h, _ => by simp at h
  | p :: P, w :: vs, 0, m, nd, h1, h2, hk => by
    simp at h1 h2; subst h1; subst h2
    show bindL kindOf ((p, w) :: P.zip vs) m p = _
    unfold bindL
    rw [bindL_out fun v hv => (List.nodup_cons.mp nd).1 (List.of_mem_zip hv).1, if_pos hk]
    simp
  | p :: P, w :: vs, i + 1, m, nd, h1, h2, hk => by
    show bindL kindOf ((p, w) :: P.zip vs) m x = _
    unfold bindL
    exact bindL_get (i := i) (List.nodup_cons.mp nd).2 (by simpa using h1) (by simpa using h2) hk
theorem bindC_get {kindOf : Str → Option NameKind} {x : Str} {v : Value} : ∀ {P : List Str} {vs : List Value} {i : Nat} {m : Str → Option Value}, P.Nodup → P[i]? = some x → vs[i]? = some v → kindOf x ≠ some .local →
    bindC kindOf (P.zip vs) m x = some v
  | [], _, _, _, _, h, _, _ => by simp at h
  | _ :: _, [], _, _, _, _, h, _ => by simp at h
  | p :: P, w :: vs, 0, m, nd, h1, h2, hk => by
    simp at h1 h2; subst h1; subst h2
    show bindC kindOf ((p, w) :: P.zip vs) m p = _
    unfold bindC
    rw [bindC_out fun v hv => (List.nodup_cons.mp nd).1 (List.of_mem_zip hv).1, if_neg hk]
    simp
  | p :: P, w :: vs, i + 1, m, nd, h1, h2, hk => by
    show bindC kindOf ((p, w) :: P.zip vs) m x = _
    unfold bindC
    exact bindC_get (i := i) (List.nodup_cons.mp nd).2 (by simpa using h1) (by simpa using h2) hk

/-- the names' values at the entry -/
def start (N : List Str) (vs : List V) : St := vs.map some ++ List.replicate (N.length - vs.length) none

/-- the context of a def's body, at its entry; an exception leaves the frame, then lies as CX says -/
def cxOf (CX : CXT) (P : Program) (w : World) (K : PySem.W.Frag) (mg : Str → Option Value) (base : Heap) (N : List Str) (qual : Str) (scope : Scope) (f : Addr) (cd : Value) (A : Around) (outer : List Env) (s : Shared) (H : Hp) (E : XK) : Cx where
  prog := P
  w := w
  K := K
  mg := mg
  base := base
  A := A.deeper (envOfC qual scope s.heap.objs.size f cd)
  N := N
  s₀ := s
  H₀ := H
  env := envOfC qual scope s.heap.objs.size f cd
  outer := outer
  stack := envOfC qual scope s.heap.objs.size f cd :: outer
  ex := []
  calm := true
  fn := fun _ => true
  pn := []
  xe := fun e s' => wpAny (model P w) (A.deeper (envOfC qual scope s.heap.objs.size f cd)) (leaving (envOfC qual scope s.heap.objs.size f cd) e) (fun _ s'' => CX outer H s E e s'') (fun e' s'' => CX outer H s E e' s'') s'

theorem cell_has {sc : Scope} {n : Nat} {x : Str} (h : sc.names.lookup x = some .cell) : ∃ c, (cellsFrom n sc.names []).lookup x = some c := by
  have q := PySem.W.cellsFrom_some sc.names n [] (.inl h)
  exact Option.isSome_iff_exists.mp q

theorem inv_start {CX : CXT} {P : Program} {w : World} {K : PySem.W.Frag} {mg : Str → Option Value} {base : Heap} {N ps : List Str} {qual : Str} {scope : Scope} {f : Addr} {cd : Value} {A : Around} {outer : List Env} {s s1 : Shared} {H : Hp} {E : XK} {us : List Value} {vs : List V}
    (S : FnScope N ps scope) (hd : A.handled = none) (e0 : Env0 P w K mg base A outer s H) (hl : vs.length = ps.length) (r : Vals vs us)
    (x : InCallC s s.heap.objs.size (bindL (envOfC qual scope s.heap.objs.size f cd).kindOf (ps.zip us) fun _ => none) (cellsFrom (s.heap.objs.size + 1) scope.names []) (bindC (envOfC qual scope s.heap.objs.size f cd).kindOf (ps.zip us) fun _ => none) s1) :
    Inv (cxOf CX P w K mg base N qual scope f cd A outer s H E) [] (start N vs) H s1 := by
  have hpl : ps.length ≤ N.length := by have := congrArg List.length S.pre; rw [List.length_take] at this; omega
  obtain ⟨h1, tk, rfl, hk⟩ := x.done
  have noA : ∀ b : Addr, b ∉ (cxOf CX P w K mg base N qual scope f cd A outer s H E).ex := fun b z => absurd (show b ∈ ([] : List Addr) from z) (by simp)
  refine ⟨⟨e0.mod, S.kind, rfl, rfl, Nat.le_refl _, fun y z c h1 h2 => ?_, fun y hy => ?_, fun y c _ h => ?_, fun _ => hd, Around.frames_deeper e0.frames, .inr ⟨rfl, rfl⟩, fun b z => absurd z (noA b), e0.bs, e0.bsz, fun b _ _ => noA b, fun b z => absurd z (noA b), e0.funs, e0.frf⟩,
    rfl, e0.bare, Un.kept hk, ⟨_, x.toInCall.ns, fun i y v h1 h2 h3 => ?_⟩, fun y c h => ⟨_, x.cell y c h⟩, e0.hok.fresh (Nat.le_refl _), fun y c h => ?_, fun p hp => absurd (show p ∈ ([] : List (Addr × Obj)) from hp) (by simp), e0.hok.kept hk, ?_⟩
  · exact name_of_addr x.apart (PySem.mem_of_lookup h1) (PySem.mem_of_lookup h2)
  · have hy : scope.names.lookup y = some .cell ∨ scope.names.lookup y = some .free := hy
    rcases hy with hy | hy
    · exact cell_has hy
    · exact absurd rfl (S.nofree _ (PySem.mem_of_lookup hy))
  · exact Nat.le_of_lt (x.above y c (PySem.mem_of_lookup h))
  · have hi : i < vs.length := by
      unfold start at h2
      by_cases hi : i < vs.length
      · exact hi
      · rw [List.getElem?_append_right (by simpa using hi)] at h2
        rw [List.getElem?_replicate] at h2
        split at h2 <;> cases h2
    have ha : vs[i]? = some v := by
      unfold start at h2
      rw [List.getElem?_append_left (by simpa using hi), List.getElem?_map] at h2
      cases e : vs[i]? with
      | none => rw [e] at h2; cases h2
      | some a => rw [e] at h2; cases h2; rfl
    obtain ⟨u, hu, rv⟩ := r.get ha
    have hp : ps[i]? = some y := by
      rw [← S.pre, List.getElem?_take_of_lt (by omega)]; exact h1
    have ndP : ps.Nodup := by rw [← S.pre]; exact S.nd.sublist (List.take_sublist _ _)
    refine ⟨u, rv, ?_⟩
    rcases S.par y (List.mem_of_getElem? hp) with k | k
    · exact .inl ⟨k, bindL_get ndP hp hu k⟩
    · obtain ⟨c, e⟩ := cell_has (n := s.heap.objs.size + 1) k
      refine .inr ⟨.inl k, c, e, ?_⟩
      have q := x.cell y c e
      rw [bindC_get ndP hp hu (by show scope.names.lookup y ≠ _; rw [k]; decide)] at q
      exact q
  · exact e0.hok.fresh (Nat.le_of_lt (x.above y c (PySem.mem_of_lookup h)))
  · unfold start
    show _ = N.length
    rw [List.length_append, List.length_map, List.length_replicate]
    omega

/-- THE RULE: a def (or a method) of the text, by its body. The body's reading t is chosen for each entry; it is run at the parameters' values -/
theorem fn_of {CX : CXT} {P : Program} {w : World} {K : PySem.W.Frag} {mg : Str → Option Value} {base : Heap} {k : Nat} {f : Addr} {name qual : Str} {params : Arguments} {body : List Stmt} {scope : Scope} {dV kV doc pm cdv ct oc : Value} {an od : Option Addr}
    {osl : Array (Option Value)} {N ps : List Str} {sp : Sp} (lk : K.lookup f = some ⟨oc, od, .func (PySem.W.fnOf name qual params body scope dV kV doc pm an cdv ct), osl⟩) (hcd : PySem.W.codeIn K cdv qual = true) (S : FnScope N ps scope)
    (len : ∀ vs H Q E, sp vs H Q E → vs.length = ps.length)
    (hbody : ∀ (A : Around) (outer : List Env) (s : Shared) (H : Hp) (vs : List V) (Q : VK) (E : XK), Room k (A.deeper (envOfC qual scope s.heap.objs.size f cdv)) → sp vs H Q E →
      ∃ t, PSs (cxOf CX P w K mg base N qual scope f cdv A outer s H E) body t ∧ t { nx := fun _ H' => Q .non H', rt := Q } (start N vs) H) :
    FnOk P w K mg base CX (k + 1) f (PySem.W.fnOf name qual params body scope dV kV doc pm an cdv ct) ps sp := by
  refine ⟨len, fun A outer s H args us vs Q E hr e0 hb r hsp => ?_⟩
  have hl := len _ _ _ _ hsp
  have KX : K.In s.heap := e0.mod.kin.keeps fun b o e => (e0.bs b o e).1
  have lim : s.heap.NoLimit := e0.mod.nolimit.keeps fun b o e => (e0.bs b o e).1
  have hkind : ∀ y ∈ ps.zip us, scope.names.lookup y.1 = some .local ∨ (scope.names.lookup y.1 = some .cell ∧ ((cellsFrom (s.heap.objs.size + 1) scope.names []).lookup y.1).isSome = true) := fun ⟨n, v⟩ hy => by
    rcases S.par n (List.of_mem_zip hy).1 with q | q
    · exact .inl q
    · exact .inr ⟨q, PySem.W.cellsFrom_some _ _ _ (.inl q)⟩
  refine codeAny_call_function hr.depth (KX _ _ lk) rfl S.co S.gen rfl (PySem.W.codeRec_of KX hcd) (hb _ _ _ _ ?_)
  refine wpAny_newFunctionEnv_cells S.kind hkind fun env he s1 x => ?_
  subst he
  refine ⟨lim.keeps x.toInCall.keep, codeAny_func ?_⟩
  obtain ⟨t, ht, hq⟩ := hbody A outer s H vs Q E (hr.deeper _) hsp
  have I : Inv (cxOf CX P w K mg base N qual scope f cdv A outer s H E) [] (start N vs) H s1 := inv_start S hr.hd e0 hl r x
  refine wpAny_mono (ht [] s1 (start N vs) H _ I hq) (fun fl s' hs => ?_) fun e s' hs => hs
  have fin : ∀ {σ' : St} {H' : Hp} {v : V} {u : Value}, Inv (cxOf CX P w K mg base N qual scope f cdv A outer s H E) [] σ' H' s' → RelV v u → Q v H' → CE outer P w H s Q u s' :=
    fun {σ' H' v u} J rv q => ⟨v, H', J.os, J.bare, J.base, J.hok, rv, q⟩
  cases fl with
  | ret u =>
    obtain ⟨v, σ', H', J, rv, q⟩ := hs
    exact fin J rv q
  | next =>
    obtain ⟨σ', H', J, q⟩ := hs
    exact fin (v := V.non) (u := Value.none) J rfl q
  | brk =>
    obtain ⟨_, _, _, q⟩ := hs
    exact False.elim q
  | cont =>
    obtain ⟨_, _, _, q⟩ := hs
    exact False.elim q
end L2

namespace L2
open PySem PySem.Spec PyProof.Rows
section
variable {X : Cx} {x : Str} {p pos : Pos} {e : Expr} {es : List Expr} {t : TA} {id T : String} {r : List V → Hp → VK → Prop}

def tCB (r : List V → Hp → VK → Prop) (t : TA) : TE := fun σ H Q => t σ H fun vs H1 => r vs H1 Q
end
end L2

namespace HT
open PySem PyProof.Rows

/-- t < u of tuples of ints -/
def lexLt : List Int → List Int → Bool
  | [], [] => false
  | [], _ :: _ => true
  | _ :: _, [] => false
  | x :: xs, y :: ys => if x = y then lexLt xs ys else decide (x < y)
section
open PySem.SeqAt
open PySem.AutoSeq1 (wpAny_loadPart')
open PySem.MeetsSeq PySem.MeetsSeq2 PySem.MeetsSeq3

end

section
variable {prog : Program} {w : World} {A : Around} {E : Value → Shared → Prop} {s : Shared}

/-! ### t[a:b], not the whole -/
/-- a slice's bound as a place among n (d where it is left out) -/
def sIx (n d : Nat) : Option Int → Nat
  | none => d
  | some v => if v < 0 then (v + (n : Int)).toNat else min v.toNat n
end
end HT

namespace L2
open PySem PySem.Spec PyProof.Rows

/-! ### the parts of a slice -/
abbrev TO := St → Hp → (Option Int → Hp → Prop) → Prop
/-- a slice's part (left out, or an int) -/
def PO (X : Cx) (e : Option Expr) (t : TO) : Prop :=
  ∀ (pins : List (Addr × Obj)) (s : Shared) (σ : St) (H : Hp) (Q : Option Int → Hp → Prop), Inv X pins σ H s → t σ H Q →
    wpAny (model X.prog X.w) X.A (evalPart e X.env) (fun u s' => ∃ o H', Inv X pins σ H' s' ∧ IsPart u o ∧ Q o H') X.xe s
def tNoPart : TO := fun _ H Q => Q none H
def tPart (t : TE) : TO := fun σ H Q => t σ H fun x H1 => ∃ i, x = .int i ∧ Q (some i) H1

section
variable {X : Cx} {e : Expr} {te : TE} {lo hi : Option Expr} {tl th : TO} {pos p2 : Pos}

/-- what a slice of a value is, by values: the slice object stands at sl -/
def SlR (X : Cx) (r : V → Option Int → Option Int → Hp → VK → Prop) : Prop :=
  ∀ (pins : List (Addr × Obj)) (s : Shared) (σ : St) (H : Hp) (x : V) (v vl vu : Value) (lo hi : Option Int) (sl : Addr) (Q : VK), Inv X pins σ H s → RelV x v → s.heap.IsSliceOf sl vl vu .none → IsPart vl lo → IsPart vu hi → r x lo hi H Q →
    ∃ T id, typeLookup (.type T) "__getitem__" = pure (some (.builtin id)) ∧ s.TypeIs v T ∧ wpAny (model X.prog X.w) X.A (getItem v (.ref sl)) (EP X pins σ Q) X.xe s
theorem SlR.or {r r' : V → Option Int → Option Int → Hp → VK → Prop} (h : SlR X r) (h' : SlR X r') : SlR X (fun x lo hi H Q => r x lo hi H Q ∨ r' x lo hi H Q) := by
  intro pins s σ H x v vl vu lo hi sl Q I rx hs pl pu q
  rcases q with q | q
  · exact h pins s σ H x v vl vu lo hi sl Q I rx hs pl pu q
  · exact h' pins s σ H x v vl vu lo hi sl Q I rx hs pl pu q
def tSl (r : V → Option Int → Option Int → Hp → VK → Prop) (te : TE) (tl th : TO) : TE := fun σ H Q => te σ H fun x H1 => tl σ H1 fun l H2 => th σ H2 fun u H3 => r x l u H3 Q
/-- the items of xs[lo:hi] -/
def cutV (xs : List V) (lo hi : Option Int) : List V := (xs.drop (HT.sIx xs.length 0 lo)).take (HT.sIx xs.length xs.length hi - HT.sIx xs.length 0 lo)
/-- t[lo:hi], not the whole of it (the whole would be t itself) -/
def rSlT (K : PySem.W.Frag) : V → Option Int → Option Int → Hp → VK → Prop := fun x lo hi H Q => ∃ a xs, x = .ref a ∧ SqT K H a xs ∧
  ¬ (HT.sIx xs.length 0 lo = 0 ∧ HT.sIx xs.length xs.length hi = xs.length) ∧ ∀ p, H p = none → Q (.ref p) (upd H p (.tup (cutV xs lo hi)))
/-! ### t < u, t + u -/
def rLtT (K : PySem.W.Frag) : R2 := fun x y H Q => ∃ a b ns ms, x = .ref a ∧ y = .ref b ∧ SqT K H a (ns.map V.int) ∧ SqT K H b (ms.map V.int) ∧ Q (.bl (HT.lexLt ns ms)) H
/-- t + u, t not empty: u empty gives t itself -/
def rCatT (K : PySem.W.Frag) : R2 := fun x y H Q => ∃ a b xs ys, x = .ref a ∧ y = .ref b ∧ SqT K H a xs ∧ SqT K H b ys ∧ xs ≠ [] ∧ xs.length + ys.length ≤ sizeLine ∧
  (ys = [] → Q (.ref a) H) ∧ (ys ≠ [] → ∀ p, H p = none → Q (.ref p) (upd H p (.tup (xs ++ ys))))
end
end L2

namespace L2
open PySem PySem.Spec PyProof.Rows

/-! ### places -/
/-- the place that an index of any sign means -/
def ixN (n : Nat) (i : Int) : Option Nat := if 0 ≤ i then (if i < n then some i.toNat else none) else if -(n : Int) ≤ i then some (i + n).toNat else none
def atI {α : Type} (xs : List α) (i : Int) : Option α := (ixN xs.length i).bind fun j => xs[j]?
theorem ixN_seq {n : Nat} {i : Int} {j : Nat} (h : ixN n i = some j) : seqIndex? i n = some j ∧ j < n ∧ -(n : Int) ≤ i ∧ i < n := by
  unfold ixN at h
  by_cases h0 : 0 ≤ i
  · rw [if_pos h0] at h
    by_cases h1 : i < n
    · rw [if_pos h1] at h
      have e : i.toNat = j := Option.some.inj h
      exact ⟨by rw [seqIndex_of h0 h1, e], by omega, by omega, h1⟩
    · rw [if_neg h1] at h; cases h
  · rw [if_neg h0] at h
    by_cases h1 : -(n : Int) ≤ i
    · rw [if_pos h1] at h
      have e : (i + n).toNat = j := Option.some.inj h
      exact ⟨by rw [seqIndex_neg (by omega) h1, e], by omega, h1, by omega⟩
    · rw [if_neg h1] at h; cases h
theorem atI_get {α : Type} {xs : List α} {i : Int} {v : α} (h : atI xs i = some v) : ∃ j, seqIndex? i xs.length = some j ∧ xs[j]? = some v ∧ j < xs.length ∧ -(xs.length : Int) ≤ i ∧ i < xs.length := by
  unfold atI at h
  cases e : ixN xs.length i with
  | none => rw [e] at h; cases h
  | some j =>
    rw [e] at h
    obtain ⟨h1, h2, h3, h4⟩ := ixN_seq e
    exact ⟨j, h1, h, h2, h3, h4⟩
theorem atI_nat {α : Type} {xs : List α} {j : Nat} {v : α} (h : xs[j]? = some v) : atI xs (j : Int) = some v := by
  have hj : j < xs.length := (List.getElem?_eq_some_iff.mp h).1
  have e : ixN xs.length (j : Int) = some j := by
    unfold ixN
    rw [if_pos (by omega), if_pos (by omega)]; simp
  unfold atI; rw [e]; exact h
/-! ### what may be subscripted -/
/-- what stands as an index of a plain subscript -/
def PlainIx (b : Expr) : Prop := ∀ o i, subscripted b false o i = operate [o, i] (getItem o i)
/-- a subscript by values -/
def IxR (X : Cx) (r : R2) : Prop :=
  ∀ (value slice : Expr) (pins : List (Addr × Obj)) (s : Shared) (σ : St) (H : Hp) (x y : V) (v u : Value) (Q : VK), Inv X pins σ H s → RelV x v → RelV y u → r x y H Q →
    subscripted slice false v u = operate [v, u] (getItem v u) → wpAny (model X.prog X.w) X.A (subscriptTail value slice v u) (EP X pins σ Q) X.xe s
/-- a call of a builtin's method by values: the receiver, the arguments -/
def MtR (X : Cx) (id : String) (r : V → List V → Hp → VK → Prop) : Prop :=
  ∀ (pins : List (Addr × Obj)) (s : Shared) (σ : St) (H : Hp) (x : V) (xs : List V) (v : Value) (us : List Value) (Q : VK), Inv X pins σ H s → RelV x v → Vals xs us → r x xs H Q →
    wpAny (model X.prog X.w) X.A (call (.builtin id) (v :: us)) (EP X pins σ Q) X.xe s
section
variable {X : Cx} {a b : Expr} {ta tb : TE} {pos : Pos}
theorem IxR.or {r r' : R2} (h : IxR X r) (h' : IxR X r') : IxR X (fun x y H Q => r x y H Q ∨ r' x y H Q) := by
  intro value slice pins s σ H x y v u Q I rx ry q hs
  rcases q with q | q
  · exact h value slice pins s σ H x y v u Q I rx ry q hs
  · exact h' value slice pins s σ H x y v u Q I rx ry q hs
theorem MtR.or {id : String} {r r' : V → List V → Hp → VK → Prop} (h : MtR X id r) (h' : MtR X id r') : MtR X id (fun x xs H Q => r x xs H Q ∨ r' x xs H Q) := by
  intro pins s σ H x xs v us Q I rx rs q
  rcases q with q | q
  · exact h pins s σ H x xs v us Q I rx rs q
  · exact h' pins s σ H x xs v us Q I rx rs q
def rIxL (K : PySem.W.Frag) : R2 := fun x y H Q => ∃ p xs i v, x = .ref p ∧ y = .int i ∧ SqL K H p xs ∧ atI xs i = some v ∧ Q v H
def rIxT (K : PySem.W.Frag) : R2 := fun x y H Q => ∃ p xs i v, x = .ref p ∧ y = .int i ∧ SqT K H p xs ∧ atI xs i = some v ∧ Q v H
def rIxS : R2 := fun x y H Q => ∃ z i c, x = .str z ∧ y = .int i ∧ z.length ≤ sizeLine ∧ atI z.cps.toList i = some c ∧ Q (.str ⟨#[c]⟩) H
theorem ix_tup : IxR X (rIxT X.K) := by
  intro value slice pins s σ H x y v u Q I rx ry h hs
  obtain ⟨p, xs, i, z, rfl, rfl, hq, he, q⟩ := h
  cases rx
  obtain ⟨t, rfl⟩ := ry
  obtain ⟨its, r, pl, hz⟩ := I.tuple hq
  obtain ⟨j, h1, h2, h3, h4, h5⟩ := atI_get he
  obtain ⟨w, ew, rw'⟩ := r.get h2
  have hl := r.length
  have hn := line63
  have fin : EP X pins σ Q w s := ⟨z, H, I, rw', q⟩
  exact subscriptTail_builtinR (x := w) pl.typeIs slot_tuple_getitem.lookup
    (getItem_tuple (j := j) (Q := fun r s' => r = w ∧ EP X pins σ Q r s') pl (by omega) (by omega) (by rw [List.size_toArray, ← hl]; exact h1) (by simpa using ew) ⟨rfl, fin⟩) hs
/-- list, tuple or str -/
def rIx (K : PySem.W.Frag) : R2 := fun x y H Q => rIxL K x y H Q ∨ rIxT K x y H Q ∨ rIxS x y H Q
/-! ### xs[i] = v, any sign -/
theorem Inv.lst {pins : List (Addr × Obj)} {σ : St} {H : Hp} {s : Shared} {p : Addr} {xs : List V} (I : Inv X pins σ H s) (h : H p = some (.lst xs)) :
    ∃ (its : List Value) (n : Nat), Vals xs its ∧ s.heap.get? p = some { cls := .type "list", data := .seq its.toArray n } ∧ xs.length ≤ sizeLine := by
  obtain ⟨z, its, n, r, e⟩ := I.hok p _ h
  exact ⟨its, n, r, e, z⟩
def rSetL : V → V → V → Hp → (Hp → Prop) → Prop := fun o i v H Q => ∃ p xs k j, o = .ref p ∧ i = .int k ∧ H p = some (.lst xs) ∧ ixN xs.length k = some j ∧ Q (upd H p (.lst (xs.set j v)))
/-! ### slices -/
/-- xs[lo:hi] of a list: a new list -/
def rSlL (K : PySem.W.Frag) : V → Option Int → Option Int → Hp → VK → Prop := fun x lo hi H Q => ∃ a xs, x = .ref a ∧ SqL K H a xs ∧ ∀ p, H p = none → Q (.ref p) (upd H p (.lst (cutV xs lo hi)))
/-! ### in, not in: flat items -/
def flatV : V → Bool
  | .non => true
  | .bl _ => true
  | .int _ => true
  | .str _ => true
  | _ => false
/-- == of flat values -/
def eqV : V → V → Bool
  | .non, .non => true
  | .bl a, .bl b => a == b
  | .bl a, .int b => (if a then 1 else 0) == b
  | .int a, .bl b => a == (if b then 1 else 0)
  | .int a, .int b => a == b
  | .str a, .str b => a == b
  | _, _ => false
/-- the items' answers, read off the values (a value's own answer does not lean on its token) -/
def eqU (x : V) (u : Value) : Bool := match u with
  | .none => eqV .non x
  | .bool b => eqV (.bl b) x
  | .int i _ => eqV (.int i) x
  | .str z _ => eqV (.str z) x
  | _ => false
def inV (x : V) (xs : List V) : Bool := xs.any fun y => eqV y x
/-- x in a list or tuple of flat items -/
def rIn (K : PySem.W.Frag) (neg : Bool) : R2 := fun x y H Q => ∃ p xs, y = .ref p ∧ (SqL K H p xs ∨ SqT K H p xs) ∧ flatV x = true ∧ xs.all flatV = true ∧ Q (.bl (if neg then !inV x xs else inV x xs)) H
/-! ### len, list(x), tuple(x) of any list or tuple that is read -/
theorem CallR.or {f : Value} {r r' : List V → Hp → VK → Prop} (h : CallR X f r) (h' : CallR X f r') : CallR X f (fun xs H Q => r xs H Q ∨ r' xs H Q) := by
  intro pins s σ H xs us Q I rs q
  rcases q with q | q
  · exact h pins s σ H xs us Q I rs q
  · exact h' pins s σ H xs us Q I rs q
/-! ### the call of a builtin's method: o.m(..) -/
/-- the value is of that builtin type -/
def tyV (K : PySem.W.Frag) (T : String) (x : V) (H : Hp) : Prop := match x with
  | .str _ => T = "str"
  | .int _ => T = "int"
  | .ref p => (T = "list" ∧ ∃ xs, SqL K H p xs) ∨ (T = "tuple" ∧ ∃ o, K.lookup p = some o ∧ o.cls = .type "tuple" ∧ o.dict = none) ∨
      (T = "dict" ∧ ((∃ kvs, H p = some (.dK kvs)) ∨ ∃ kvs, H p = some (.dT kvs))) ∨ (T = "set" ∧ ∃ S n, H p = some (.set S n))
  | _ => False
def tBM0 (K : PySem.W.Frag) (T : String) (r : V → List V → Hp → VK → Prop) (to : TE) : TE := fun σ H Q => to σ H fun x H1 => tyV K T x H1 ∧ r x [] H1 Q
def tBM (K : PySem.W.Frag) (T : String) (r : V → List V → Hp → VK → Prop) (to : TE) (t : TA) : TE := fun σ H Q => to σ H fun x H1 => tyV K T x H1 ∧ t σ H1 fun xs H2 => r x xs H2 Q
variable {o e : Expr} {es : List Expr} {to : TE} {t : TA} {name : Str} {apos cpos : Pos} {T id : String} {r : V → List V → Hp → VK → Prop}
/- xs.append(e), list.index on a module's tuple .. are MtR facts of 06m -/
end
end L2

namespace L2
open PySem PySem.Spec PyProof.Rows

def MtM (X : Cx) (id : String) (r : V → List V → Hp → VK → Prop) : Prop :=
  ∀ (pins : List (Addr × Obj)) (s : Shared) (σ : St) (H : Hp) (x : V) (xs : List V) (v : Value) (us : List Value) (Q : VK), Inv X pins σ H s → RelV x v → Vals xs us → r x xs H Q →
    wpAny (model X.prog X.w) X.A (call (.builtin id) (v :: us)) (EP X pins σ Q) X.xe s

/-! ### lists of values -/
theorem Vals.one : ∀ {x : V} {us : List Value}, Vals [x] us → ∃ u, us = [u] ∧ RelV x u
  | _, _, .cons r .nil => ⟨_, rfl, r⟩
theorem Vals.two : ∀ {x y : V} {us : List Value}, Vals [x, y] us → ∃ u v, us = [u, v] ∧ RelV x u ∧ RelV y v
  | _, _, _, .cons r (.cons q .nil) => ⟨_, _, rfl, r, q⟩
theorem Vals.zero : ∀ {us : List Value}, Vals [] us → us = []
  | _, .nil => rfl
theorem Vals.dropLast {xs : List V} {us : List Value} (h : Vals xs us) : Vals xs.dropLast us.dropLast := by
  induction h with
  | nil => exact .nil
  | cons r t ih =>
    cases t with
    | nil => exact .nil
    | cons q t' => exact .cons r ih
theorem Vals.eraseIdx : ∀ {xs : List V} {us : List Value} (i : Nat), Vals xs us → Vals (xs.eraseIdx i) (us.eraseIdx i)
  | _, _, _, .nil => .nil
  | _, _, 0, .cons _ t => t
  | _, _, i + 1, .cons r t => .cons r (Vals.eraseIdx i t)
theorem Vals.reverse {xs : List V} {us : List Value} (h : Vals xs us) : Vals xs.reverse us.reverse := by
  induction h with
  | nil => exact .nil
  | cons r t ih => rw [List.reverse_cons, List.reverse_cons]; exact Vals.append ih (.cons r .nil)
theorem Vals.rep {xs : List V} {us : List Value} (h : Vals xs us) : ∀ k : Nat, Vals (List.replicate k xs).flatten (List.replicate k us).flatten
  | 0 => .nil
  | k + 1 => by
    rw [List.replicate_succ, List.replicate_succ, List.flatten_cons, List.flatten_cons]
    exact Vals.append h (Vals.rep h k)
section
variable {X : Cx} {pins : List (Addr × Obj)} {σ : St} {H : Hp} {s : Shared} {l b : Addr} {xs ys zs : List V}

/-! ### the two steps: a tracked list is rewritten, a new list is laid -/
theorem Inv.fresh (I : Inv X pins σ H s) : H s.heap.objs.size = none := I.hok.fresh (Nat.le_refl _)
end

section
variable {X : Cx}

/-! ### methods -/
def rAppend : V → List V → Hp → VK → Prop := fun x vs H Q => ∃ l xs y, x = .ref l ∧ vs = [y] ∧ H l = some (.lst xs) ∧ xs.length < sizeLine ∧ Q .non (upd H l (.lst (xs ++ [y])))
def rExtend : V → List V → Hp → VK → Prop := fun x vs H Q => ∃ l b xs zs, x = .ref l ∧ vs = [.ref b] ∧ H l = some (.lst xs) ∧ H b = some (.lst zs) ∧ xs.length + zs.length ≤ sizeLine ∧ Q .non (upd H l (.lst (xs ++ zs)))
def rPop : V → List V → Hp → VK → Prop := fun x vs H Q => ∃ l xs y, x = .ref l ∧ vs = [] ∧ H l = some (.lst xs) ∧ xs[xs.length - 1]? = some y ∧ Q y (upd H l (.lst xs.dropLast))
def rPopAt : V → List V → Hp → VK → Prop := fun x vs H Q => ∃ l xs i k y, x = .ref l ∧ vs = [.int i] ∧ H l = some (.lst xs) ∧ -(2 ^ 63) ≤ i ∧ i < 2 ^ 63 ∧ seqIndex? i xs.length = some k ∧ xs[k]? = some y ∧ Q y (upd H l (.lst (xs.eraseIdx k)))
def rReverse : V → List V → Hp → VK → Prop := fun x vs H Q => ∃ l xs, x = .ref l ∧ vs = [] ∧ H l = some (.lst xs) ∧ Q .non (upd H l (.lst xs.reverse))
def rClear : V → List V → Hp → VK → Prop := fun x vs H Q => ∃ l xs, x = .ref l ∧ vs = [] ∧ H l = some (.lst xs) ∧ Q .non (upd H l (.lst []))
/-! ### list + list, list += list, list * int -/
def rCat : R2 := fun x y H Q => ∃ l b xs zs, x = .ref l ∧ y = .ref b ∧ H l = some (.lst xs) ∧ H b = some (.lst zs) ∧ xs.length + zs.length ≤ sizeLine ∧ ∀ p, H p = none → Q (.ref p) (upd H p (.lst (xs ++ zs)))
/-- a list times an int (a negative one is nothing) -/
def rRep : R2 := fun x y H Q => ∃ l k xs, x = .ref l ∧ y = .int k ∧ H l = some (.lst xs) ∧ -(2 ^ 63) ≤ k ∧ k < 2 ^ 63 ∧ xs.length * k.toNat ≤ sizeLine ∧
  ∀ p, H p = none → Q (.ref p) (upd H p (.lst (List.replicate k.toNat xs).flatten))
/-! ### del xs[i] -/
end

/-! ### xs[a:b] = ys -/
section
variable {prog : Program} {w : World} {A : Around} {E : Value → Shared → Prop} {s : Shared}
set_option maxRecDepth 100000 in
/-- list.__setitem__ with a slice of step one and another list -/
end

section
variable {X : Cx}
end
end L2

namespace Att
open PySem PySem.W PySem.Calls PyProof.Rows

/-! ### the script -/
theorem ints_of_wellAll {P : Params} {h : Heap} : ∀ (ns : List Int) (vs : List Value), WellAll P h vs (ns.map WData.int) → IntsAre vs ns := by
  intro ns
  induction ns with
  | nil =>
    intro vs w
    rw [List.map_nil] at w
    cases w
    exact .nil
  | cons n ns ih =>
    intro vs w
    rw [List.map_cons] at w
    cases w with
    | cons a b =>
      cases a
      exact .cons _ _ (ih _ b)

theorem script_of {l : OpenLaw} {n : Nat} (hn : l.most = some n) {P : Params} {h : Heap} {args : List WData} {vals : List Value}
    (hpre : l.row.toRowW.claim.pre args = true) (hwl : WellAll P h vals args) :
    ∃ a vs ns, vals = [Value.ref a] ∧ args = [WData.list (ns.map WData.int)] ∧ h.get? a = some { cls := .type "list", data := .seq vs.toArray } ∧ IntsAre vs ns ∧ ns.length ≤ n := by
  have hsh : WShape.hasAll [] args [.list .int] = true := (pre_splitW hpre).1
  have hc : l.pre.holds [] { args := args } = true := (pre_splitW hpre).2
  obtain ⟨d, r, rfl, h1, h2⟩ := hasAllW_cons hsh
  obtain rfl := hasAllW_nil h2
  obtain ⟨xs, rfl, h3⟩ := hasW_list h1
  obtain ⟨ns, rfl⟩ := items_int h3
  have hlen : ns.length ≤ n := by
    unfold OpenLaw.pre at hc
    have h4 : (WTm.not (.lt (.lit (.int (n : Int))) (.len (.arg 0)))).holds [] { args := [.list (ns.map .int)] } = true := by
      have h4 := (holds_andW hc).1
      rw [hn] at h4
      exact h4
    have h5 := condW_of h4 (w_not (w_lt w_lit (w_len_list (w_arg rfl))))
    rw [List.length_map] at h5
    refine Nat.le_of_not_lt fun q => ?_
    have q' : (n : Int) < ((ns.length : Nat) : Int) := by omega
    first
      | (rw [decide_eq_true q'] at h5; exact absurd h5 (by decide))
      | (simp at h5; omega)
  cases hwl with
  | cons w1 w2 =>
    cases w2
    cases w1 with
    | list ho hall => exact ⟨_, _, ns, rfl, rfl, ho, ints_of_wellAll ns _ hall, hlen⟩

theorem post_true (l : OpenLaw) (args : List WData) : l.row.toRowW.claim.post args (.bool true) args = true :=
  postW_of (r := l.row.toRowW) (X := (true == true))
    (show WShape.has [] (.bool true) .bool = true by first | rfl | decide | simp [WShape.has, WShape.arms, WShape.armsAll])
    (show (WTm.eq .res (.lit (.bool true))).value [] { args := args, res := some (.bool true), after := args } = some (.bool (true == true)) from w_eq_bool (w_res rfl) w_lit) rfl

/-! ### the attachment: holds_open's last premise (the goal 'hc' behind k_head) from a wpAny of the law's body -/
/-- the same from a codeAny of the CALL (for a layer whose function contracts speak of calls) -/
theorem attach_call {l : OpenLaw} {n : Nat} {q : Program} {loose : List Str} {XP : (Str → Option Value) → Heap → Prop} {YP : World → Heap → Prop} {d : DefRec}
    (hn : l.most = some n) (hdf : d.params.defaults = [])
    (call : ∀ (w : World) (s₀ s₁ : Shared) (mg mb : Str → Option Value) (fa : Addr) (o : Obj) (pm cd doc : Value) (a : Addr) (vs : List Value) (ns : List Int),
      Ground q loose [] XP w s₀ mg mb s₁.heap → YP w s₁.heap →
      s₁.heap.get? fa = some o → o.data = .func (docDef d.name d.params d.body d.scope pm cd doc) → s₁.heap.CodeRec cd d.name → mg d.name = some (.ref fa) →
      s₁.heap.get? a = some { cls := .type "list", data := .seq vs.toArray } → IntsAre vs ns → ns.length ≤ n → s₁.gens = #[] →
      codeAny (model l.prog w) callerA (.call (.ref fa) ⟨[.ref a], []⟩) (fun r s' => r = .ok (.ret (.bool true)) ∧ OldK s₁.heap s'.heap ∧ s'.os = s₁.os ∧ AllBare s'.gens) s₁) :
    WalkO q loose XP YP l.row.toRowW d [] (fun f vs => PySem.call f vs) := by
  intro w s₀ s₁ mg mb G Y fa o pm cd doc dV kV ho hd hcd hD hmg hg args vals as hpre hlay hrd hwl hlo
  obtain rfl : dV = .none := Dflts.none hD hdf
  obtain rfl : kV = .none := Dflts.noKw hD
  obtain ⟨a, vs, ns, rfl, rfl, hobj, hints, hlen⟩ := script_of hn hpre hwl
  refine enter_call (codeAny_mono (call w s₀ s₁ mg mb fa o pm cd doc a vs ns G Y ho (fd_plain hd) hcd hmg hobj hints hlen hg) fun r s' hq => ?_)
  obtain ⟨rfl, h2, h3, h4⟩ := hq
  exact ⟨.inl ⟨.bool true, .bool true, [], rfl, fun _ => rfl, .bool true, post_true l _, fun _ => ⟨List.Pairwise.nil, fun _ hm => (nomatch hm)⟩⟩, h2, h3, h4⟩

/-! ### rules over ANY heap (no ledger) from facts about the written part K: the library's own take a ledger (News) for what they write -/
section
variable {prog : Program} {w : World} {A : Around} {E : Value → Shared → Prop} {s : Shared} {K : Frag}

/-! the whole heap as the ledger: makes every rule that writes through a ledger a rule over any heap -/
def noObjs (h : Heap) : Heap := { h with objs := #[] }
def ledger (h : Heap) (L d : Addr) : List (Addr × Obj) := (List.range h.objs.size).filterMap fun a => if a = L ∨ a = d then none else (h.get? a).map fun o => (a, o)
end
end Att

namespace L2
open PySem PySem.Spec PyProof.Rows

theorem vals_ints : ∀ {vs : List Value} {ns : List Int}, IntsAre vs ns → Vals (ns.map V.int) vs
  | _, _, .nil => .nil
  | _, _, .cons n t h => .cons ⟨t, rfl⟩ (vals_ints h)

/-- nothing is tracked but the script, known to the object (or it is an object of the module) -/
def Only (H : Hp) : Prop := ∀ b, H b = none ∨ ∃ o xs, H b = some (.frz o (.lst xs))

/-- THE HEAD: the law's promise, at the heap behind the top. F, the promise of the law's def, may use that base is part of the heap (so K.In base, base.Ns mainGlobals mg stand in Mod) -/
theorem law_call {P : Program} {w : World} {K : PySem.W.Frag} {mg mb : Str → Option Value} {CX : CXT} {k : Nat} {fa a : Addr} {fd : FuncData} {x : Str} {sp : Sp} {s₁ : Shared} {vs : List Value} {ns : List Int}
    (KX : K.In s₁.heap) (hns : s₁.heap.Ns mainGlobals mg) (hb : s₁.heap.Ns builtinsNs mb) (hbb : ∀ x : Str, x ≠ "__name__" → mb x = bootBuiltins x) (hlim : s₁.heap.NoLimit) (hg : s₁.gens = #[])
    (ha : s₁.heap.get? a = some { cls := .type "list", data := .seq vs.toArray }) (hi : IntsAre vs ns) (hl : ns.length ≤ sizeLine) (hr : Room k callerA)
    (F : ∀ base : Heap, K.In base → base.Ns mainGlobals mg → FnOk P w K mg base CX k fa fd [x] sp) (hbind : ∀ (s : Shared) (u : Value), BindsTo s fd ⟨[u], []⟩ [(x, u)])
    (hsp : ∀ H : Hp, Only H → SqL K H a (ns.map V.int) → sp [.ref a] H (fun v _ => v = .bl true) fun _ _ _ => False)
    (hCX : ∀ H e s', CX [] H s₁ (fun _ _ _ => False) e s' → False) :
    codeAny (model P w) callerA (.call (.ref fa) ⟨[.ref a], []⟩) (fun r s' => r = .ok (.ret (.bool true)) ∧ OldK s₁.heap s'.heap ∧ s'.os = s₁.os ∧ AllBare s'.gens) s₁ := by
  have rv := vals_ints hi
  have lenV := hi.length
  -- from an abstract heap in which nothing but the script may be tracked
  have core : ∀ H : Hp, Only H → SqL K H a (ns.map V.int) → HOk P w H s₁.heap → (∀ b, H b ≠ none → b = a) → (H a ≠ none → K.lookup a = none) →
      codeAny (model P w) callerA (.call (.ref fa) ⟨[.ref a], []⟩) (fun r s' => r = .ok (.ret (.bool true)) ∧ OldK s₁.heap s'.heap ∧ s'.os = s₁.os ∧ AllBare s'.gens) s₁ := by
    intro H hO hS hok hA hK
    have base_of : ∀ {b : Addr} {o : Obj}, s₁.heap.get? b = some o → H b = none → (hidT s₁.heap H).get? b = some o := fun e n => hidT_get e n
    have noA : ∀ {b : Addr} {o : Obj} {es : Array DictEntry} {ep : Nat}, s₁.heap.get? b = some o → o.data = .dict es ep → H b = none := fun {b o es ep} e d => by
      cases q : H b with
      | none => rfl
      | some u =>
        have e' : b = a := hA b (by rw [q]; simp)
        subst e'
        rw [ha] at e; cases e
        have d' : Data.seq vs.toArray _ = Data.dict es ep := d
        cases d'
    have nsK : ∀ {b : Addr} {m : Str → Option Value}, s₁.heap.Ns b m → (hidT s₁.heap H).Ns b m := fun {b m} ⟨o, es, ep, e, d, r⟩ => ⟨o, es, ep, base_of e (noA e d), d, r⟩
    have hKb : K.In (hidT s₁.heap H) := fun b o e => base_of (KX b o e) (by
      cases q : H b with
      | none => rfl
      | some u =>
        have e' : b = a := hA b (by rw [q]; simp)
        subst e'
        rw [hK (by rw [q]; simp)] at e; cases e)
    have hM : Mod K mg (hidT s₁.heap H) := ⟨hKb, nsK hns, ⟨mb, nsK hb, hbb⟩, let ⟨mc, h1, h2⟩ := hlim; ⟨mc, nsK h1, h2⟩⟩
    have e0 : Env0 P w K mg (hidT s₁.heap H) callerA [] s₁ H := ⟨rfl, hM, fun b o e => of_hidT e, Nat.le_of_eq (hidT_size _ _), trivial, fun b hb => absurd (show b ∈ ([] : List Addr) from hb) (by simp), hok, .of_eq hg⟩
    refine codeAny_mono ((F _ hKb (nsK hns)).run callerA [] s₁ H ⟨[.ref a], []⟩ [.ref a] [.ref a] _ _ hr e0 (hbind s₁ (.ref a)) (.cons rfl .nil) (hsp H hO hS)) fun r s' h => ?_
    cases r with
    | error e => exact (hCX H e s' h).elim
    | ok fl =>
      cases fl with
      | next => exact False.elim h
      | brk => exact False.elim h
      | cont => exact False.elim h
      | ret u =>
        obtain ⟨v, H', os, bare, un, hok', r', q⟩ := h
        have q' : v = .bl true := q
        subst q'
        obtain rfl : u = Value.bool true := r'
        refine ⟨rfl, OldK.of_keep fun b o e => ?_, os, bare⟩
        cases q : H b with
        | none => exact un.keep b o e q (by intro z; exact absurd (show b ∈ ([] : List Addr) from z) (by simp)) (by simp)
        | some u =>
          rcases hO b with z | ⟨ob, xs, z⟩
          · rw [q] at z; cases z
          · have z2 := un.frzs b ob _ z
            obtain ⟨e1, _⟩ := hok b _ z
            obtain ⟨e2, _⟩ := hok' b _ z2
            rw [e] at e1; cases e1
            exact e2
  cases hk : K.lookup a with
  | some o =>
    -- the script is one of the module's own objects
    have e := KX a o hk
    rw [ha] at e
    cases e
    refine core (fun _ => none) (fun _ => .inl rfl) (.inr ⟨_, vs.toArray, _, hk, rfl, rfl, rfl, by rw [List.size_toArray, lenV]; exact hl, by simpa using rv⟩) (fun b u z => by have z' : (none : Option HO) = some u := z; cases z') (fun b z => absurd rfl z) fun z => absurd rfl z
  | none =>
    refine core (fun b => if b = a then some (.frz { cls := .type "list", data := .seq vs.toArray } (.lst (ns.map V.int))) else none) (fun b => ?_) (.inl (.inr ⟨{ cls := .type "list", data := .seq vs.toArray }, if_pos rfl⟩)) (fun b u z => ?_) (fun b z => ?_) fun _ => hk
    · by_cases hb : b = a
      · exact .inr ⟨_, _, if_pos hb⟩
      · exact .inl (if_neg hb)
    · by_cases hb : b = a
      · have z' := (if_pos hb).symm.trans z
        cases z'
        subst hb
        exact ⟨ha, by rw [List.length_map]; exact hl, vs, _, rv, ha⟩
      · have z' := (if_neg hb).symm.trans z
        cases z'
    · by_cases hb : b = a
      · exact hb
      · exact absurd (if_neg hb) z
end L2

namespace L2
open PySem PySem.Spec PyProof.Rows

abbrev KOf {K : PySem.W.Frag} {h : Heap} (_ : K.In h) : PySem.W.Frag := K

/-- the goal that k_head leaves (case hc), from the law's promise. F gives the function object fd (K's own) once, then the promise over every base -/
theorem walk_of {l : PySem.W.OpenLaw} {n k : Nat} {q : Program} {loose : List Str} {XP : (Str → Option Value) → Heap → Prop} {YP : World → Heap → Prop} {d : DefRec} {K : Params → PySem.W.Frag} {CX : World → CXT} {sp : World → Sp} {x : Str}
    (hn : l.most = some n) (hn2 : n ≤ sizeLine) (hdf : d.params.defaults = []) (hr : Room k callerA)
    (hY : ∀ (w : World) (h : Heap), YP w h → (K w.params).In h)
    (F : ∀ (w : World) (mg : Str → Option Value) (fa : Addr) (h : Heap), (K w.params).In h → h.Ns mainGlobals mg → mg d.name = some (.ref fa) →
      ∃ fd : FuncData, (∀ (s : Shared) (u : Value), BindsTo s fd ⟨[u], []⟩ [(x, u)]) ∧
        ∀ base : Heap, (K w.params).In base → base.Ns mainGlobals mg → FnOk l.prog w (K w.params) mg base (CX w) k fa fd [x] (sp w))
    (hsp : ∀ (w : World) (H : Hp) (a : Addr) (ns : List Int), ns.length ≤ n → Only H → SqL (K w.params) H a (ns.map V.int) → sp w [.ref a] H (fun v _ => v = .bl true) fun _ _ _ => False)
    (hCX : ∀ (w : World) (H : Hp) (s : Shared) (e : Value) (s' : Shared), CX w [] H s (fun _ _ _ => False) e s' → False) :
    PySem.W.WalkO q loose XP YP l.row.toRowW d [] (fun f vs => PySem.call f vs) := by
  refine Att.attach_call hn hdf fun w s₀ s₁ mg mb fa o pm cd doc a vs ns G Y ho hd hcd hmg hobj hints hlen hg => ?_
  have KX := hY w _ Y
  obtain ⟨fd, hb, hF⟩ := F w mg fa _ KX G.T.g hmg
  exact law_call KX G.T.g G.T.b G.T.builtins G.T.nolimit hg hobj hints (Nat.le_trans hlen hn2) hr hF hb (fun H hO hS => hsp w H a ns hlen hO hS) fun H e s' => hCX w H s₁ e s'
end L2

/- THE LAST THEOREM (shape; LID, My.* are yours):
   My.Adr: a structure of the addresses that your layer names (classes, functions); My.Txt K t: a structure (Prop) of the equations over K;
   My.txt_mk : {K} {implicit addresses ..} (e1 : nsIn K mainGlobals "law" = some (some (.ref f))) (e2 : K.lookup f = some ⟨oc, od, .func (fnOf "law" "law" params body scope dV kV doc pm an cdv ct), sl⟩) (e3 : codeIn K cdv "law" = true) .. : ∃ t, My.Txt K t

set_option maxRecDepth 100000 in
set_option maxHeartbeats 0 in
theorem PySem.Challenge.cw_LID_holds : PySem.Challenge.rw_LID.Holds := by
  w_on; o_law; k_head; (case hw => w_witness2)
  k_fill
  refine L2.walk_of (l := PySem.Challenge.rw_LID) (n := 63) (k := 40) (x := "script") (CX := fun w => ..) (sp := fun _ => My.sp_law) rfl (by decide) rfl ⟨rfl, by decide, by decide⟩ (fun w h Y => PySem.W.kIn_of Y) ?F ?S ?C
  case F =>
    intro w mg fa h KX G hmg
    have T : ∃ t, My.Txt (L2.KOf KX) t := by
      dsimp only [L2.KOf]                          -- K must stand as «<heap const> w.params» for k_is
      refine' My.txt_mk ?e1 ?e2 ?e3 ..
      (case e1 => PySem.W.k_is)                    -- in the order: a name -> its address -> its object -> its parts
      (case e2 => PySem.W.k_is)
      ..
    obtain ⟨t, T⟩ := T
    have e0 := hmg.symm.trans (PySem.W.mg_of KX G T.law)
    cases e0                                       -- fa is the law's own address
    exact ⟨_, fun s u => .of_eq rfl, fun base kb nb => My.law_fn T kb nb⟩     -- if «.of_eq rfl» comes too early: refine' ⟨_, ?b, fun base kb nb => My.law_fn T kb nb⟩; exact fun s u => .of_eq rfl
  case S => exact fun w H a ns hl hO hS => ..
  case C => exact ..
(the tactic k_is has no namespace: write k_is) -/

/-! SHORT WORDS over the layer: a def of the text, its body, what a loop and a test want. -/
namespace L2
open PySem PySem.Spec PyProof.Rows

/-! ### the text by places -/
/-- the j-th statement of a class's body -/
def inClass (s : Stmt) (j : Nat) : Stmt := match s with
  | .ClassDef _ _ _ body _ _ _ _ _ _ _ => body.getD j (.Pass ⟨0, 0, 0, 0⟩)
  | _ => .Pass ⟨0, 0, 0, 0⟩
def defArgs (s : Stmt) : Arguments := match s with
  | .FunctionDef _ a _ _ _ _ _ _ _ _ => a
  | _ => { posonlyargs := [], args := [], vararg := none, kwonlyargs := [], kw_defaults := [], kwarg := none, defaults := [] }
def defBody (s : Stmt) : List Stmt := match s with
  | .FunctionDef _ _ b _ _ _ _ _ _ _ => b
  | _ => []
def defScope (s : Stmt) : Scope := match s with
  | .FunctionDef _ _ _ _ _ _ sc _ _ _ => sc
  | _ => { kind := .function, names := [], isGenerator := false, isCoroutine := false }

/-! ### no exception leaves a def -/
abbrev CX0 : CXT := fun _ _ _ _ _ _ => False
abbrev E0 : XK := fun _ _ _ => False
/-! ### a def (or method) of the text as it stands behind the top -/
structure Fun (K : PySem.W.Frag) (x qual : Str) (st : Stmt) (f : Addr) (fd : FuncData) : Prop where
  ex : ∃ (oc : Value) (od : Option Addr) (kV doc pm : Value) (an : Option Addr) (cdv ct : Value) (osl : Array (Option Value)),
    fd = PySem.W.fnOf x qual (defArgs st) (defBody st) (defScope st) .none kV doc pm an cdv ct ∧ K.lookup f = some ⟨oc, od, .func fd, osl⟩ ∧ PySem.W.codeIn K cdv qual = true
  kp : PySem.W.keepIn K (.ref f) = true
section
variable {P : Program} {w : World} {K : PySem.W.Frag} {mg : Str → Option Value} {base : Heap}
/-- THE RULE for a def: its body as a term of rules, and the reading of that term -/
theorem Fun.ok {x qual : Str} {st : Stmt} {f : Addr} {fd : FuncData} {N ps : List Str} {k : Nat} {sp : Sp} (F : Fun K x qual st f fd) (S : FnScope N ps (defScope st)) (len : ∀ vs H Q E, sp vs H Q E → vs.length = ps.length)
    (hbody : ∀ (cdv : Value) (A : Around) (outer : List Env) (s : Shared) (H : Hp) (vs : List V) (Q : VK) (E : XK), Room k (A.deeper (envOfC qual (defScope st) s.heap.objs.size f cdv)) → sp vs H Q E →
      ∃ t, PSs (cxOf CX0 P w K mg base N qual (defScope st) f cdv A outer s H E).nox (defBody st) t ∧ t { nx := fun _ H' => Q .non H', rt := Q } (start N vs) H) : FnOk P w K mg base CX0 (k + 1) f fd ps sp := by
  obtain ⟨oc, od, kV, doc, pm, an, cdv, ct, osl, rfl, lk, hcd⟩ := F.ex
  refine fn_of lk hcd S len fun A outer s H vs Q E hr hsp => ?_
  obtain ⟨t, h, q⟩ := hbody cdv A outer s H vs Q E hr hsp
  exact ⟨t, h.nox, q⟩
/-- how its arguments bind (no defaults): h is «fun _ _ _ _ _ _ us hl => match us, hl with | [_, _], _ => rfl», one _ a parameter -/
theorem Fun.binds {x qual : Str} {st : Stmt} {f : Addr} {fd : FuncData} {ps : List Str} (F : Fun K x qual st f fd)
    (h : ∀ (kV doc pm : Value) (an : Option Addr) (cdv ct : Value) (us : List Value), us.length = ps.length → bindArgs (PySem.W.fnOf x qual (defArgs st) (defBody st) (defScope st) .none kV doc pm an cdv ct) ⟨us, []⟩ = pure (ps.zip us)) : Binds K fd ps [] := by
  obtain ⟨oc, od, kV, doc, pm, an, cdv, ct, osl, rfl, lk, hcd⟩ := F.ex
  exact .all (h kV doc pm an cdv ct)
end
/-! ### expressions in short: the name that stands in the i-th slot -/
section
variable {X : Cx}
end

/-! ### tests -/
/-! ### heaps -/
/-- all that was tracked is as it was -/
def Same (H H' : Hp) : Prop := ∀ b o, H b = some o → H' b = some o
theorem Same.refl (H : Hp) : Same H H := fun _ _ h => h
theorem Same.trans {H H1 H2 : Hp} (a : Same H H1) (b : Same H1 H2) : Same H H2 := fun c o h => b c o (a c o h)
theorem Same.free {H H' : Hp} (e : Same H H') {l : Addr} (h : H' l = Option.none) : H l = Option.none := by
  cases q : H l with
  | none => rfl
  | some o =>
    rw [e l o q] at h
    cases h
theorem Same.seq {K : PySem.W.Frag} {H H' : Hp} {a : Addr} {xs : List V} (e : Same H H') (h : SqL K H a xs) : SqL K H' a xs := by
  rcases h with (h | ⟨o, h⟩) | h
  · exact .inl (.inl (e _ _ h))
  · exact .inl (.inr ⟨o, e _ _ h⟩)
  · exact .inr h

end L2
set_option Elab.async false
set_option linter.all false
set_option maxRecDepth 100000
set_option maxHeartbeats 4000000
namespace NB
end NB
namespace NB
def Sz (n : Nat) (q : Rat) : Prop := q.num.natAbs < 2 ^ n ∧ q.den < 2 ^ n
theorem Sz.mono {m n : Nat} {q : Rat} (h : Sz m q) (hmn : m ≤ n) : Sz n q :=
  ⟨Nat.lt_of_lt_of_le h.1 (Nat.pow_le_pow_right (by decide) hmn), Nat.lt_of_lt_of_le h.2 (Nat.pow_le_pow_right (by decide) hmn)⟩
theorem natAbs_ediv_le (a : Int) (g : Nat) : (a / (g : Int)).natAbs ≤ a.natAbs := by
  rcases Nat.eq_zero_or_pos g with h | h
  · subst h; simp
  · have := Int.natAbs_ediv_le_natAbs a (g : Int); exact this
theorem Sz.divInt {n : Nat} {t b : Int} (hb : b ≠ 0) (h1 : t.natAbs < 2 ^ n) (h2 : b.natAbs < 2 ^ n) : Sz n (Rat.divInt t b) := by
  refine ⟨?_, ?_⟩
  · rw [Rat.num_divInt]
    refine Nat.lt_of_le_of_lt ?_ h1
    by_cases hdv : (b.sign * t).natAbs = t.natAbs
    · exact hdv ▸ natAbs_ediv_le _ _
    · exfalso; apply hdv
      rw [Int.natAbs_mul]
      rcases Int.lt_or_gt_of_ne hb with h | h
      · rw [Int.sign_eq_neg_one_of_neg h]; simp
      · rw [Int.sign_eq_one_of_pos h]; simp
  · rw [Rat.den_divInt, if_neg hb]
    exact Nat.lt_of_le_of_lt (Nat.div_le_self _ _) h2
theorem mul_lt {a b m n : Nat} (h1 : a < 2 ^ m) (h2 : b < 2 ^ n) : a * b < 2 ^ (m + n) := by
  rw [Nat.pow_add]
  exact Nat.mul_lt_mul'' h1 h2
theorem Sz.mul {m n : Nat} {p q : Rat} (hp : Sz m p) (hq : Sz n q) : Sz (m + n) (p * q) := by
  rw [Rat.mul_def', ← Rat.divInt_ofNat]
  refine Sz.divInt ?_ ?_ ?_
  · have := p.den_nz; have := q.den_nz
    have h := Nat.mul_ne_zero p.den_nz q.den_nz
    omega
  · rw [Int.natAbs_mul]; exact mul_lt hp.1 hq.1
  · rw [Int.natAbs_natCast]; exact mul_lt hp.2 hq.2
theorem two_pow (k : Nat) : 2 ^ (k + 1) = 2 ^ k + 2 ^ k := by rw [Nat.pow_succ]; omega
theorem Sz.add {m n : Nat} {p q : Rat} (hp : Sz m p) (hq : Sz n q) : Sz (m + n + 1) (p + q) := by
  rw [Rat.add_def', ← Rat.divInt_ofNat]
  have h1 := mul_lt hp.1 hq.2
  have h2 := mul_lt hq.1 hp.2
  have h3 := mul_lt hp.2 hq.2
  rw [Nat.add_comm n m] at h2
  have e := two_pow (m + n)
  refine Sz.divInt ?_ ?_ ?_
  · have h := Nat.mul_ne_zero p.den_nz q.den_nz
    omega
  · have t1 : (p.num * (q.den : Int)).natAbs = p.num.natAbs * q.den := by rw [Int.natAbs_mul]; simp
    have t2 : (q.num * (p.den : Int)).natAbs = q.num.natAbs * p.den := by rw [Int.natAbs_mul]; simp
    have t3 := Int.natAbs_add_le (p.num * (q.den : Int)) (q.num * (p.den : Int))
    omega
  · rw [Int.natAbs_natCast]; omega
theorem Sz.neg {n : Nat} {q : Rat} (h : Sz n q) : Sz n (-q) := by
  refine ⟨?_, h.2⟩
  rw [Rat.neg_num, Int.natAbs_neg]; exact h.1
theorem Sz.sub {m n : Nat} {p q : Rat} (hp : Sz m p) (hq : Sz n q) : Sz (m + n + 1) (p - q) := by
  rw [Rat.sub_eq_add_neg]; exact hp.add hq.neg
theorem Sz.zero {n : Nat} (h : 0 < n) : Sz n 0 := ⟨by simp; exact Nat.two_pow_pos n, by simp; omega⟩
theorem Sz.one {n : Nat} (h : 0 < n) : Sz n 1 := ⟨by simp; omega, by simp; omega⟩
end NB
/-! OWN RULES over the layer: data, sizes, calls, isinstance, == of data. -/
namespace L3
open PySem PySem.Spec PyProof.Rows L2

/-! ### arithmetic of any size that comes -/
section
variable {X : Cx}
end
theorem mulOk {a b : Int} {m n : Nat} (ha : a.natAbs < 2 ^ m) (hb : b.natAbs < 2 ^ n) (h : m + n ≤ 1000000) : IntMulOk a b :=
  IntMulOk.of_le (intBits_le_iff.mpr ha) (intBits_le_iff.mpr hb) (by omega)

/-! ### data -/
mutual
inductive DV (K : PySem.W.Frag) (H : Hp) : V → PyData → Prop
  | non : DV K H .non .none
  | bl (b : Bool) : DV K H (.bl b) (.bool b)
  | int (i : Int) : DV K H (.int i) (.int i)
  | str (x : Str) : DV K H (.str x) (.str x)
  | tup {a : Addr} {xs : List V} {ds : List PyData} : SqT K H a xs → DVs K H xs ds → DV K H (.ref a) (.tuple ds)
  | lst {a : Addr} {xs : List V} {ds : List PyData} : SqL K H a xs → DVs K H xs ds → DV K H (.ref a) (.list ds)
inductive DVs (K : PySem.W.Frag) (H : Hp) : List V → List PyData → Prop
  | nil : DVs K H [] []
  | cons {v : V} {vs : List V} {d : PyData} {ds : List PyData} : DV K H v d → DVs K H vs ds → DVs K H (v :: vs) (d :: ds)
end
/-- tuples stay -/
def TK (H H' : Hp) : Prop := (∀ a xs, H a = some (.tup xs) → H' a = some (.tup xs)) ∧ ∀ a o u, H a = some (.frz o u) → H' a = some (.frz o u)
theorem TK.refl (H : Hp) : TK H H := ⟨fun _ _ h => h, fun _ _ _ h => h⟩
theorem TK.trans {H H1 H2 : Hp} (a : TK H H1) (b : TK H1 H2) : TK H H2 := ⟨fun c xs h => b.1 c xs (a.1 c xs h), fun c o u h => b.2 c o u (a.2 c o u h)⟩
theorem TK.of {H H' : Hp} (s : Same H H') : TK H H' := ⟨fun a _ h => s a _ h, fun a _ _ h => s a _ h⟩
theorem TK.new {H : Hp} {p : Addr} {o : HO} (h : H p = none) : TK H (upd H p o) :=
  ⟨fun a xs e => by rw [upd_ne (ne_of_none e h)]; exact e, fun a ob u e => by rw [upd_ne (ne_of_none e h)]; exact e⟩
theorem TK.lst {H : Hp} {p : Addr} {xs : List V} {o : HO} (h : H p = some (.lst xs)) : TK H (upd H p o) :=
  ⟨fun a ys e => by rw [upd_ne (ne_of e h ((fun z => nomatch z)))]; exact e, fun a ob u e => by rw [upd_ne (ne_of e h ((fun z => nomatch z)))]; exact e⟩
theorem same_new {H : Hp} {p : Addr} (h : H p = none) (o : HO) : Same H (upd H p o) := fun b u q => by rw [upd_ne (ne_of_none q h)]; exact q
theorem TK.tup {K : PySem.W.Frag} {H H' : Hp} {a : Addr} {xs : List V} (e : TK H H') (h : SqT K H a xs) : SqT K H' a xs := by
  rcases h with (h | ⟨o, h⟩) | h
  · exact .inl (.inl (e.1 _ _ h))
  · exact .inl (.inr ⟨o, e.2 _ _ _ h⟩)
  · exact .inr h
theorem SameT {K : PySem.W.Frag} {H H' : Hp} {a : Addr} {xs : List V} (e : Same H H') (h : SqT K H a xs) : SqT K H' a xs := (TK.of e).tup h
mutual
/-- no list within -/
def noL : PyData → Bool
  | .list _ => false
  | .tuple ds => noLs ds
  | _ => true
def noLs : List PyData → Bool
  | [] => true
  | d :: ds => noL d && noLs ds
end
mutual
theorem DV.ts {K : PySem.W.Frag} {H H' : Hp} (e : TK H H') : ∀ {v : V} {d : PyData}, DV K H v d → noL d = true → DV K H' v d
  | _, _, .non, _ => .non
  | _, _, .bl b, _ => .bl b
  | _, _, .int i, _ => .int i
  | _, _, .str x, _ => .str x
  | _, _, .tup h r, n => .tup (e.tup h) (DVs.ts e r (by simpa [noL] using n))
  | _, _, .lst h r, n => by simp [noL] at n
theorem DVs.ts {K : PySem.W.Frag} {H H' : Hp} (e : TK H H') : ∀ {vs : List V} {ds : List PyData}, DVs K H vs ds → noLs ds = true → DVs K H' vs ds
  | _, _, .nil, _ => .nil
  | _, _, .cons r q, n => by
    simp only [noLs, Bool.and_eq_true] at n
    exact .cons (DV.ts e r n.1) (DVs.ts e q n.2)
end
mutual
theorem DV.same {K : PySem.W.Frag} {H H' : Hp} (e : Same H H') : ∀ {v : V} {d : PyData}, DV K H v d → DV K H' v d
  | _, _, .non => .non
  | _, _, .bl b => .bl b
  | _, _, .int i => .int i
  | _, _, .str x => .str x
  | _, _, .tup h r => .tup (SameT e h) (DVs.same e r)
  | _, _, .lst h r => .lst (e.seq h) (DVs.same e r)
theorem DVs.same {K : PySem.W.Frag} {H H' : Hp} (e : Same H H') : ∀ {vs : List V} {ds : List PyData}, DVs K H vs ds → DVs K H' vs ds
  | _, _, .nil => .nil
  | _, _, .cons r q => .cons (DV.same e r) (DVs.same e q)
end
section
variable {X : Cx} {pins : List (Addr × Obj)} {σ : L2.St} {H : Hp} {s : Shared}
mutual
theorem DV.reads (I : Inv X pins σ H s) : ∀ {v : V} {d : PyData} {u : Value}, DV X.K H v d → RelV v u → ∃ as, Reads s.heap u d as
  | _, _, _, .non, r => by cases r; exact ⟨_, .none⟩
  | _, _, _, .bl b, r => by cases r; exact ⟨_, .bool b⟩
  | _, _, _, .int i, r => by obtain ⟨t, rfl⟩ := r; exact ⟨_, .int i t⟩
  | _, _, _, .str x, r => by obtain ⟨t, rfl⟩ := r; exact ⟨_, .str x t⟩
  | _, _, _, .tup h q, r => by
    cases r
    obtain ⟨its, r', ⟨o, ho, hc, n, hd⟩, _⟩ := I.tuple h
    obtain ⟨as, z⟩ := DVs.reads I q r'
    exact ⟨as, .tuple ho hc hd (by simpa using z)⟩
  | _, _, _, .lst h q, r => by
    cases r
    obtain ⟨its, r', pl, _⟩ := I.list h
    obtain ⟨o, ho, hc, n, hd⟩ := pl.isList
    obtain ⟨as, z⟩ := DVs.reads I q r'
    exact ⟨_, .list ho hc hd (by simpa using z)⟩
theorem DVs.reads (I : Inv X pins σ H s) : ∀ {vs : List V} {ds : List PyData} {us : List Value}, DVs X.K H vs ds → Vals vs us → ∃ as, ReadsAll s.heap us ds as
  | _, _, _, .nil, r => by cases r; exact ⟨_, .nil⟩
  | _, _, _, .cons h q, r => by
    cases r with
    | cons r1 r2 =>
      obtain ⟨as, z1⟩ := DV.reads I h r1
      obtain ⟨bs, z2⟩ := DVs.reads I q r2
      exact ⟨_, .cons z1 z2⟩
end
end
/-- data that == may look at -/
def okD (d : PyData) : Bool := SeqAt.shaped d
section
variable {X : Cx}
def rEqD (K : PySem.W.Frag) : R2 := fun x y H Q => ∃ d e, DV K H x d ∧ DV K H y e ∧ okD d = true ∧ okD e = true ∧ Q (.bl (PyData.eqv d e)) H
def rNeD (K : PySem.W.Frag) : R2 := fun x y H Q => ∃ d e, DV K H x d ∧ DV K H y e ∧ okD d = true ∧ okD e = true ∧ Q (.bl (!PyData.eqv d e)) H
end

/-! ### a def that is called, in one piece -/
structure Cal (P : Program) (w : World) (K : PySem.W.Frag) (mg : Str → Option Value) (base : Heap) (CX : CXT) (k : Nat) (x : Str) (ps : List Str) (sp : Sp) : Prop where
  ex : ∃ (f : Addr) (fd : FuncData), FnOk P w K mg base CX k f fd ps sp ∧ Binds K fd ps [] ∧ PySem.W.keepIn K (.ref f) = true ∧ mg x = some (.ref f)
section
variable {X : Cx} {CX : CXT} {k n : Nat} {x : Str} {ps : List Str} {sp : Sp} {E : XK} {p pos : Pos} {e : Expr} {es : List Expr} {t : TA}
end

/-! ### isinstance -/
/-- a value's type, as isinstance's deciders take it -/
inductive TyX (K : PySem.W.Frag) (H : Hp) : V → Value → Prop where
  | non : TyX K H .non (.type "NoneType")
  | bl (x : Bool) : TyX K H (.bl x) (.type "bool")
  | int (i : Int) : TyX K H (.int i) (.type "int")
  | str (x : Str) : TyX K H (.str x) (.type "str")
  | lst {a : Addr} {xs : List V} (e : SqL K H a xs) : TyX K H (.ref a) (.type "list")
  | tup {a : Addr} {xs : List V} (e : SqT K H a xs) : TyX K H (.ref a) (.type "tuple")
section
variable {X : Cx} {pins : List (Addr × Obj)} {σ : L2.St} {H : Hp} {s : Shared} {A : Around} {E : Value → Shared → Prop} {Q : Value → Shared → Prop} {c : Value} {b : Bool}
/-- the kit of isinstance for such a value -/
theorem TyX.kit {x : V} {u t : Value} (I : Inv X pins σ H s) (rx : RelV x u) (ty : TyX X.K H x t) : u ≠ .builtin "__main__.__loader__#opaque" ∧ ∃ HP : Heap → Prop, PySem.W.KitX X.K u t HP ∧ HP s.heap := by
  cases ty with
  | non => cases (show u = Value.none from rx); exact ⟨fun z => (nomatch z), _, PySem.W.kitx_none, True.intro⟩
  | bl y => cases (show u = Value.bool y from rx); exact ⟨fun z => (nomatch z), _, PySem.W.kitx_bool, True.intro⟩
  | int i => obtain ⟨t, q⟩ := (show ∃ t, u = Value.int i t from rx); cases q; exact ⟨fun z => (nomatch z), _, PySem.W.kitx_int, True.intro⟩
  | str y => obtain ⟨t, q⟩ := (show ∃ t, u = Value.str y t from rx); cases q; exact ⟨fun z => (nomatch z), _, PySem.W.kitx_str, True.intro⟩
  | @lst a xs ea =>
    cases (show u = Value.ref a from rx)
    obtain ⟨its, _, pl, _⟩ := I.list ea
    obtain ⟨o, ho, hc, _⟩ := pl.isList
    exact ⟨fun z => (nomatch z), _, PySem.W.kitx_list, ⟨o, ho, hc⟩⟩
  | @tup a xs ea =>
    cases (show u = Value.ref a from rx)
    obtain ⟨its, _, ⟨o, ho, hc, _⟩, _⟩ := I.tuple ea
    exact ⟨fun z => (nomatch z), _, PySem.W.kitx_tuple, ⟨o, ho, hc⟩⟩
end
def vOf : V → Value
  | .ty n => .type n
  | .ref a => .ref a
  | _ => .none
def isCls : V → Bool
  | .ty _ => true
  | .ref _ => true
  | _ => false
section
variable {X : Cx}
end
end L3
/-! OWN RULES: refusals. How an own exception is raised, leaves defs, is caught, and what isinstance says of it. -/
namespace L3
open PySem PySem.Spec PyProof.Rows L2

/-- how a refusal lies behind a call: it flies over B, which holds all that stood ahead of the call and all that is tracked -/
def CXR (P : Program) (w : World) : CXT := fun outer H s E e s' =>
  ∃ (ea : Addr) (C : Value) (t : Addr) (B : Heap) (H' : Hp), e = .ref ea ∧ s'.os = s.os ∧ AllBare s'.gens ∧ Un (frs outer) [] H H' s.heap s'.heap ∧ HOk P w H' s'.heap ∧
    Heap.FlyingW B outer ea C (.ref t) s'.heap ∧ (∀ b o, s'.heap.get? b = some o → b ∉ frs outer → (s.heap.get? b ≠ none ∨ H' b ≠ none) → B.get? b = some o) ∧
    s.heap.get? ea = none ∧ H' ea = none ∧ E C none H'

section
variable {P : Program} {w : World} {K : PySem.W.Frag} {mg : Str → Option Value} {base : Heap} {N : List Str} {qual : Str} {scope : Scope} {f : Addr} {cd : Value} {A : Around} {outer : List Env} {s : Shared} {H : Hp} {E : XK}
/-- an exception that is wanted may be raised here -/
def RaisesTo (X : Cx) (E : XK) : Prop := ∀ (pins : List (Addr × Obj)) (σ : L2.St) (H : Hp) (s : Shared) (h' : Heap) (ea : Addr) (C : Value) (vs : List Value),
  Inv X pins σ H s → Heap.MadeExcOf s.heap h' ea C vs → E C none H → X.xe (.ref ea) { s with heap := h' }

end

/-! ### raise C(text) -/
def tRaise (C : Addr) (E : XK) (t : TA) : TS := fun _ σ H => t σ H fun vs H1 => vs.length ≤ sizeLine ∧ E (.ref C) none H1
section
variable {X : Cx} {E : XK} {C : Addr} {x : Str} {e : Expr} {es : List Expr} {t : TA} {np cpos pos : Pos}
end

/-! ### a def whose refusals are wanted -/
/-! ### try: f(..) except C as n: .. -/
def XPost (X : Cx) (pins : List (Addr × Obj)) (σ : L2.St) (E : XK) (e : Value) (s' : Shared) : Prop := ∃ H1 s1, Inv X pins σ H1 s1 ∧ CXR X.prog X.w X.stack H1 s1 E e s'
/-- an expression that may be refused -/
def PEX (X : Cx) (e : Expr) (t : L2.St → Hp → VK → XK → Prop) : Prop :=
  ∀ (pins : List (Addr × Obj)) (s : Shared) (σ : L2.St) (H : Hp) (Q : VK) (E : XK), Inv X pins σ H s → t σ H Q E → wpAny (model X.prog X.w) X.A (eval e X.env) (EP X pins σ Q) (XPost X pins σ E) s
section
variable {X : Cx} {k n : Nat} {x : Str} {ps : List Str} {sp : Sp} {p pos : Pos} {e : Expr} {es : List Expr} {t : TA}
end

/-- an exception that was caught: its class is known -/
def excO (ea : Addr) (C : Value) : HO := .ext fun h => ∃ o, h.get? ea = some o ∧ o.cls = C
/-- within the suite of an except clause -/
abbrev Cx.inH (X : Cx) (ea : Addr) (xe : Value → Shared → Prop) : Cx := { X with A := X.A.mark (some (.ref ea)), calm := false, xe := xe }
theorem ok_inH {X : Cx} {ea : Addr} {xe : Value → Shared → Prop} (ok : X.Ok) : (Cx.inH X ea xe).Ok :=
  ⟨ok.mod, ok.kind, ok.glob, ok.blt, ok.above, ok.inj, ok.has, ok.cab, (fun z => nomatch z), ok.frames, ok.stk, ok.exf, ok.bs, ok.bsz, ok.noex, ok.exfs, ok.funs, ok.frf⟩
section
variable {X : Cx} {pins : List (Addr × Obj)} {σ : L2.St} {H : Hp} {s : Shared} {ea : Addr} {xe : Value → Shared → Prop}
theorem Inv.inH (I : Inv X pins σ H s) : Inv (Cx.inH X ea xe) pins σ H s := ⟨ok_inH I.ok, I.os, I.bare, I.base, I.loc, I.cell, I.free, I.freeC, I.pin, I.hok, I.len⟩
end
/-- what the fragment says of a class that is caught by another one (both own exceptions) -/
structure CatchK (K : PySem.W.Frag) (C B : Addr) : Prop where
  tyB : PySem.W.typeIn K (.ref B) = some (.type "type")
  clB : (PySem.W.clsIn K B).isSome = true
  exB : PySem.W.subIn K (.ref B) (.type "BaseException") = some true
  sub : PySem.W.subIn K (.ref C) (.ref B) = some true
theorem looks_isType {K : PySem.W.Frag} {M : Model} {h : Heap} {B : Addr} (X : K.In h) (c : (PySem.W.clsIn K B).isSome = true) : PySem.W.Looks M h (isType (.ref B)) true := by
  unfold PySem.W.clsIn at c
  split at c
  · rename_i look
    intro A' Q' E' s' k q
    unfold isType loadHead
    refine wpAny_bind ?_
    exact wpAny_loadPart (k _ _ (X _ _ look)) (wpAny_pure q)
  · exact nomatch c
end L3
/-! OWN RULES: the except clause, isinstance of what was caught. -/
namespace L3
open PySem PySem.Spec PyProof.Rows L2

section
variable {X : Cx} {pins : List (Addr × Obj)} {σ : L2.St} {H : Hp} {s : Shared}
end

def tTryE (K : PySem.W.Frag) (te : L2.St → Hp → VK → XK → Prop) (B : Addr) (j : Nat) (ts : TS) : TS := fun D σ H =>
  te σ H (fun _ H1 => D.nx σ H1) fun C _ H' => ∃ c, C = .ref c ∧ CatchK K c B ∧
    ∀ ea, H' ea = none → ts { nx := fun σ' H2 => D.nx (σ'.set j none) H2, rt := fun _ _ => False } (σ.set j (some (.ref ea))) (upd H' ea (excO ea (.ref c)))
section
variable {X : Cx} {e : Expr} {te : L2.St → Hp → VK → XK → Prop} {B : Addr} {j : Nat} {ts : TS} {x n : Str} {b0 : Stmt} {suite : List Stmt} {p1 np hp pos : Pos}
end

/-! ### isinstance of a caught exception -/
/-- what the fragment says of an own exception class, for isinstance -/
structure ExcK (K : PySem.W.Frag) (C : Addr) : Prop where
  cl : (PySem.W.clsIn K C).isSome = true
  ga : PySem.W.findIn K (.ref C) "__getattribute__" = some (some (.builtin "BaseException.__getattribute__"))
  no : PySem.W.findIn K (.ref C) "__getattr__" = some none
  ca : PySem.W.findIn K (.ref C) "__class__" = some (some (.builtin "object.__class__"))
  ob : PySem.W.subIn K (.ref C) (.type "object") = some true
  be : PySem.W.subIn K (.ref C) (.type "BaseException") = some true
end L3
/-! OWN RULES: the class of a caught exception. -/
namespace L3
open PySem PySem.Spec PySem.Calls PySem.Builtin PySem.Builtin.Getset_descriptor PyProof.Rows L2
section
variable {prog : Program} {w : World} {A : Around} {E : Value → Shared → Prop} {h : Heap} {g : Array GenState} {d : Drawn} {t : Nat} {os : OsState} {a C : Addr} {o : Obj} {K : PySem.W.Frag}
theorem xk_ty (hx : h.get? a = some o) (hc : o.cls = .ref C) (M : Model) : PySem.W.Looks M h (typeOf (.ref a)) (.ref C) := hc ▸ (PySem.W.Looks.ld hx).andThen .now
theorem xk_get {R : Result → Shared → Prop} {tp : Value} (X : K.In h) (x : ExcK K C) (hx : h.get? a = some o) (hc : o.cls = .ref C) (hq : R (.ok (.ret (.ref C))) ⟨h, g, d, t, os⟩) :
    codeAny (model prog w) A (.call (.builtin "getset_descriptor.__get__") ⟨[.builtin "object.__class__", .ref a, tp], []⟩) R ⟨h, g, d, t, os⟩ := by
  have L0 := xk_ty hx hc (model prog w)
  have L1 := PySem.W.looks_subIn (M := model prog w) X x.ob
  refine codeAny_call_builtin PySem.W.KF.slot_gs.plain PySem.W.KF.entry_gs (PySem.W.KF.slot_gs.check _ _ _ _ _ _ _ _ PySem.W.KF.type_class (PySem.W.KF.args_gs _ _ _) ?_)
  unfold Builtin.«getset_descriptor.__get__»; unfold descrGet
  rw [PySem.W.dga_obj]
  refine wpAny_bind (wpAny_pure ?_)
  unfold descrGetter descrCheckInstance; unfold descrNameAndClass isInstance
  simp only [PySem.W.KF.owner_class]
  repeat lk
  refine ⟨Code.quiet_builtin _ (by decide +kernel), codeAny_builtin PySem.W.KF.entry_class ?_⟩
  unfold Builtin.«object.__class__»; unfold shownTypeOf
  repeat lk
  exact hq
theorem xk_entry {tk : Tok} {Q : Fin → Shared → Prop} (X : K.In h) (x : ExcK K C) (hx : h.get? a = some o) (hc : o.cls = .ref C) (hq : Q (.done (.ret (.ref C))) ⟨h, g, d, t, os⟩) :
    wpAny (model prog w) A (Builtin.«object.__getattribute__» ⟨[.ref a, .str "__class__" tk], []⟩) Q E ⟨h, g, d, t, os⟩ := by
  have L0 := xk_ty hx hc (model prog w)
  have L1 := PySem.W.looks_findIn (M := model prog w) X x.ca
  have f5 := F.typeOf_object_class
  have f6 := F.slot_gs_get.lookup
  have f7 := F.slot_gs_set.lookup
  repeat (any_goals (first | assumption | with_reducible refine PySem.W.Looks.at L0 ?_ | with_reducible refine PySem.W.Looks.at L1 ?_ | (with_reducible refine wpAny_loadPart_at hx ?_; rw [hc]) | wp_step))
  refine xk_get X x hx hc ?_
  repeat (any_goals (first | assumption | wp_step))
theorem xk_check {M : Model} {nameV : Value} {Q : Unit → Shared → Prop} (X : K.In h) (x : ExcK K C) (hx : h.get? a = some o) (hc : o.cls = .ref C) (hq : Q () ⟨h, g, d, t, os⟩) :
    wpAny M A (checkBuiltinCall "BaseException.__getattribute__" ⟨[.ref a, nameV], []⟩) Q E ⟨h, g, d, t, os⟩ := by
  have k1 : builtinKind "BaseException.__getattribute__" = some .slot := by decide +kernel
  have k2 : splitId "BaseException.__getattribute__" = some ("BaseException", "__getattribute__") := by decide +kernel
  have L : PySem.W.Looks M h (isInstance (.ref a) (.type "BaseException")) true := (xk_ty hx hc M).andThen (PySem.W.looks_subIn X x.be)
  have ha := F.args_bexc_ga (.ref a) nameV
  simp only [checkBuiltinCall, k1, k2]
  refine wpAny_bind (L.at ?_)
  repeat (any_goals (first | assumption | wp_step))
theorem xk_by {tk : Tok} {Q : Value → Shared → Prop} (X : K.In h) (x : ExcK K C) (hx : h.get? a = some o) (hc : o.cls = .ref C) (hq : Q (.ref C) ⟨h, g, d, t, os⟩) :
    wpAny (model prog w) A (getAttrBy (.ref a) (.str "__class__" tk) false false) Q E ⟨h, g, d, t, os⟩ := by
  have L0 := xk_ty hx hc (model prog w)
  have L1 := PySem.W.looks_findIn (M := model prog w) X x.ga
  have L2 := PySem.W.looks_findIn (M := model prog w) X x.no
  have f3 := F.attr_ValueError.ga.bind (.ref a)
  have z0 : (false && onTheHeap (Value.builtin "BaseException.__getattribute__")) = false := rfl
  have z2 : (Value.builtin "BaseException.__getattribute__" == Value.builtin "object.__getattribute__") = false := by decide +kernel
  have z1 : (onTheHeap (Value.ref C) && Value.builtin "BaseException.__getattribute__" == Value.builtin "object.__getattribute__") = false := by rw [z2]; rfl
  repeat (any_goals (first | assumption | with_reducible refine PySem.W.Looks.at L0 ?_ | with_reducible refine PySem.W.Looks.at L1 ?_ | with_reducible refine PySem.W.Looks.at L2 ?_ | wp_step))
  refine codeAny_call_builtin F.attr_ValueError.ga.plain F.entry_bexc_ga (xk_check X x hx hc (xk_entry X x hx hc ?_))
  repeat (any_goals (first | assumption | wp_step))
theorem xk_attr {Q : Option Value → Shared → Prop} (X : K.In h) (x : ExcK K C) (hx : h.get? a = some o) (hc : o.cls = .ref C) (hq : Q (some (.ref C)) ⟨h, g, d, t + 1, os⟩) :
    wpAny (model prog w) A (getAttr? (.ref a) "__class__") Q E ⟨h, g, d, t, os⟩ := by
  unfold getAttr?; unfold getAttrBy?
  repeat (any_goals (first | assumption | with_reducible apply xk_by X x hx hc | wp_step))
end
theorem kitx_exc {K : PySem.W.Frag} {a C : Addr} (x : ExcK K C) : PySem.W.KitX K (.ref a) (.ref C) (fun h => ∃ o, h.get? a = some o ∧ o.cls = .ref C) where
  ty := fun M h _ p => by
    obtain ⟨o, h1, h2⟩ := p
    exact xk_ty h1 h2 M
  it := fun _ _ X _ => looks_isType X x.cl
  ne := fun h tp dd its n sl X htp => by
    refine Bool.eq_false_iff.mpr fun q => ?_
    have e : C = tp := Value.ref.inj (beq_iff_eq.mp q)
    subst e
    have c := x.cl
    unfold PySem.W.clsIn at c
    split at c
    · rename_i look
      have z := (X _ _ look).symm.trans htp
      cases z
    · exact nomatch c
  ca := fun {_ _ _ _ _ s} X p k => by
    obtain ⟨hh, g, d, t, os⟩ := s
    obtain ⟨o, h1, h2⟩ := p
    exact xk_attr X x h1 h2 k

/-- a value's type, exceptions that were caught among them -/
inductive TyE (K : PySem.W.Frag) (H : Hp) : V → Value → Prop where
  | of {x : V} {t : Value} : TyX K H x t → TyE K H x t
  | exc {a C : Addr} : ExcK K C → H a = some (excO a (.ref C)) → TyE K H (.ref a) (.ref C)
section
variable {X : Cx} {pins : List (Addr × Obj)} {σ : L2.St} {H : Hp} {s : Shared}
theorem TyE.kit {x : V} {u t : Value} (I : Inv X pins σ H s) (rx : RelV x u) (ty : TyE X.K H x t) : u ≠ .builtin "__main__.__loader__#opaque" ∧ ∃ HP : Heap → Prop, PySem.W.KitX X.K u t HP ∧ HP s.heap := by
  cases ty with
  | of h => exact TyX.kit I rx h
  | @exc a C xk e =>
    cases (show u = Value.ref a from rx)
    obtain ⟨p, _, _⟩ := I.hok a _ e
    exact ⟨fun z => (nomatch z), _, kitx_exc xk, p⟩
end
section
variable {X : Cx}
end
end L3
/-! THE LAW'S ATTACHMENT, a def of the text by the fragment. -/
namespace L3
open PySem PySem.Spec PyProof.Rows L2
structure HasDef (K : PySem.W.Frag) (x : Str) (st : Stmt) : Prop where
  ex : ∃ (f : Addr) (fd : FuncData), Fun K x x st f fd ∧ PySem.W.nsIn K mainGlobals x = some (some (.ref f))
/-- a module's constant tuple -/
structure HasTup (K : PySem.W.Frag) (x : Str) (xs : List V) : Prop where
  ex : ∃ a, PySem.W.nsIn K mainGlobals x = some (some (.ref a)) ∧ ∀ H, SqT K H a xs
/-- what law(script) promises: for a list of at most 63 ints the answer is True -/
def spLaw (K : PySem.W.Frag) : Sp := fun vs H Q _ => ∃ (a : Addr) (ns : List Int), vs = [.ref a] ∧ SqL K H a (ns.map V.int) ∧ ns.length ≤ 63 ∧ ∀ H', Q (.bl true) H'
/-! ### numbers -/
def nD (q : Rat) : PyData := .tuple [.int q.num, .int (q.den : Int)]
/-- a def hands back the datum d, all else as it was -/
def Ret (K : PySem.W.Frag) (H : Hp) (Q : VK) (d : PyData) : Prop := ∀ v H', Same H H' → DV K H' v d → Q v H'
/-- a number of a size that is reckoned with -/
def Sz (n : Nat) (q : Rat) : Prop := q.num.natAbs < 2 ^ n ∧ q.den < 2 ^ n
end L3

set_option Elab.async false
set_option linter.all false
set_option maxRecDepth 100000
set_option maxHeartbeats 4000000
/-! OWN RULES: list comprehensions over one clause. -/
namespace L3
open PySem PySem.Spec PyProof.Rows L2

section
variable {prog : Program} {w : World} {A : Around} {R : Result → Shared → Prop} {s : Shared}
end

/-- the context of a comprehension's block: its own name first, then the def's -/
abbrev cxC (X : Cx) (x : Str) (scope : Scope) (cl : List (Str × Addr)) (C : Addr) (s0 : Shared) (H0 : Hp) (fp : List Addr) : Cx :=
  { X with N := x :: X.N, s₀ := s0, H₀ := H0, env := compEnvC scope cl C X.env, outer := X.stack, ex := fp, fn := fun _ => false, pn := [], xe := fun _ _ => False }
/-- what the text says of a comprehension's names -/
structure CompOk (X : Cx) (x : Str) (scope : Scope) (cl : List (Str × Addr)) : Prop where
  clos : closureFor scope X.env = pure cl
  sub : ∀ y c, cl.lookup y = some c → X.env.cells.lookup y = some c
  has : ∀ y, (relabel scope X.env).names.lookup y = some .cell ∨ (relabel scope X.env).names.lookup y = some .free → ∃ c, cl.lookup y = some c
  nocell : ∀ y ∈ scope.names, y.2 ≠ .cell
  kind : scope.kind = .function
  names : ∀ y ∈ scope.names, y.2 = .local → scope.names.lookup y.1 = some .local
  tgt : scope.names.lookup x = some .local
  cellv : ∀ y ∈ X.N, Vis (relabel scope X.env) y → ((relabel scope X.env).names.lookup y = some .cell ∨ (relabel scope X.env).names.lookup y = some .free) ∧ (X.env.scope.names.lookup y = some .cell ∨ X.env.scope.names.lookup y = some .free)
  nd : x ∉ X.N
def tLC (wi : TI) (tt : TT) (te : TE) : TE := fun σ H Q => wi σ H fun J H1 => ∀ acc, H1 acc = none → ∃ W : Nat → Nat → List V → Hp → Prop, (∃ m, W 0 m [] (upd H1 acc (.lst []))) ∧
  ∀ i m xs H, W i m xs H → H acc = some (.lst xs) ∧ ((J.stop i H ∧ Q (.ref acc) H) ∨ (J.go i H ∧ ∀ y H', J.yld i H y H' →
    tt (some y :: σ) H' fun ok H2 => if ok = true then te (some y :: σ) H2 fun v H3 => H3 acc = some (.lst xs) ∧ xs.length < sizeLine ∧ ∃ m', m' < m ∧ W (i + 1) m' (xs ++ [v]) (upd H3 acc (.lst (xs ++ [v]))) else ∃ m', m' < m ∧ W (i + 1) m' xs H2))
/-- the tests of a clause: none, or one -/
def PIfs (X : Cx) (ifs : List Expr) (t : TT) : Prop :=
  ∀ (pins : List (Addr × Obj)) (s : Shared) (σ : L2.St) (H : Hp) (Q : Bool → Hp → Prop), Inv X pins σ H s → t σ H Q →
    wpAny (model X.prog X.w) X.A (forIn ifs true fun c r => if r = true then do let ok ← isTrue c X.env (eval c X.env); pure (ForInStep.yield ok) else pure (ForInStep.yield r)) (TP X pins σ Q) X.xe s
def tTrue : TT := fun _ H Q => Q true H
section
variable {X : Cx} {x : Str} {scope : Scope} {cl : List (Str × Addr)} {wi : TI} {tt : TT} {te : TE} {elt iter : Expr} {ifs : List Expr} {px pos : Pos}
end
end L3

set_option Elab.async false
set_option linter.all false
set_option maxRecDepth 100000
set_option maxHeartbeats 4000000
namespace L3
open PySem PySem.Spec PyProof.Rows L2
set_option maxRecDepth 100000
namespace RF
theorem slot_init : Slot "reversed" "__init__" "object.__init__" :=
  .of (owner := "object") (n := "__init__") (by rw [typeLookup_type, builtinLookup_eq_fast]; kernel_rfl) (by decide +kernel) (by decide +kernel) (by decide +kernel)
    (by first | exact .inl (by decide +kernel) | exact .inr (by decide +kernel)) (by rw [isSubtype_type]; kernel_rfl)
theorem called : TypeCalled "reversed" "reversed.__new__" "object.__init__" :=
  ⟨by decide +kernel, by decide +kernel, ⟨_, _, PySem.F.mro_reversed⟩, PySem.F.made_reversed, by decide +kernel, by rw [isSubtype_type]; kernel_rfl, slot_init⟩
end RF
section
variable {prog : Program} {w : World} {A : Around} {E : Value → Shared → Prop} {s : Shared}
def IsRevT (h : Heap) (a l : Addr) (i : Int) : Prop := ∃ o, h.get? a = some o ∧ o.cls = .type "reversed" ∧ o.data = .fields #[.ref l, rawInt i]
theorem IsRevT.typeIs {a l : Addr} {i : Int} (x : IsRevT s.heap a l i) : s.TypeIs (.ref a) "reversed" := let ⟨o, ho, hc, _⟩ := x; ⟨o, ho, hc⟩
theorem IsRevT.at {h h' : Heap} {a l : Addr} {i : Int} (x : IsRevT h a l i) (e : ∀ o, h.get? a = some o → h'.get? a = some o) : IsRevT h' a l i := let ⟨o, ho, r⟩ := x; ⟨o, e _ ho, r⟩
end
/-! ### what reversed(t) walks -/
def Itv (K : PySem.W.Frag) (a : Addr) (n : Nat) : It :=
  ⟨fun i H => i < n ∧ ∃ xs, SqT K H a xs ∧ xs.length = n, fun i H x H' => H' = H ∧ ∀ xs, SqT K H a xs → xs[n - 1 - i]? = some x, fun i H => n ≤ i ∧ ∃ xs, SqT K H a xs ∧ xs.length = n⟩
section
variable {X : Cx} {tg : Expr}
def iRevT (K : PySem.W.Frag) (ta : TA) : TI := fun σ H R => ta σ H fun vs H1 => ∃ a xs, vs = [.ref a] ∧ SqT K H1 a xs ∧ R (Itv K a xs.length) H1
/-! ### range(a, b, -1) -/
end
def Itd (lo : Int) (n : Nat) : It := ⟨fun i _ => i < n, fun i H x H' => H' = H ∧ x = .int (lo - i), fun i _ => n ≤ i⟩
section
variable {X : Cx} {tg : Expr}
def iRng3 (ta : TA) : TI := fun σ H R => ta σ H fun vs H1 => ∃ i j : Int, vs = [.int i, .int j, .int (-1)] ∧ (-(2 ^ 62) ≤ i ∧ i < 2 ^ 62 ∧ -(2 ^ 62) ≤ j ∧ j < 2 ^ 62) ∧ R (Itd i (i - j).toNat) H1
end
/-! ### x[::-1] -/
section
variable {prog : Program} {w : World} {A : Around} {E : Value → Shared → Prop} {s : Shared}
end
section
variable {X : Cx} {e st : Expr} {te : TE} {p2 pos : Pos}
/-- x[::-1] by values -/
def RvR (X : Cx) (r : V → Hp → VK → Prop) : Prop :=
  ∀ (pins : List (Addr × Obj)) (s : Shared) (σ : L2.St) (H : Hp) (x : V) (v : Value) (sl : Addr) (t : Tok) (Q : VK), Inv X pins σ H s → RelV x v → s.heap.IsSliceOf sl .none .none (.int (-1) t) → r x H Q →
    ∃ T id, typeLookup (.type T) "__getitem__" = pure (some (.builtin id)) ∧ s.TypeIs v T ∧ wpAny (model X.prog X.w) X.A (getItem v (.ref sl)) (EP X pins σ Q) X.xe s
def tRv (r : V → Hp → VK → Prop) (te : TE) : TE := fun σ H Q => te σ H fun x H1 => r x H1 Q
end
end L3

set_option Elab.async false
set_option linter.all false
set_option maxRecDepth 100000
set_option maxHeartbeats 4000000
/-! OWN RULES: name = a comprehension. -/
namespace L3
open PySem PySem.Spec PyProof.Rows L2
section
variable {X : Cx} {x : Str} {scope : Scope} {cl : List (Str × Addr)} {wi : TI} {tt : TT} {te : TE} {elt iter : Expr} {ifs : List Expr} {px pos : Pos}
end
end L3

set_option Elab.async false
set_option linter.all false
set_option maxRecDepth 100000
set_option maxHeartbeats 4000000
namespace L3
open PySem PySem.Spec PyProof.Rows L2
set_option maxRecDepth 100000
namespace RF
end RF
section
variable {prog : Program} {w : World} {A : Around} {E : Value → Shared → Prop} {s : Shared}
variable {I : Addr} {fp wr : List Addr} {G : Array GenState → Array GenState → Prop} {n : Nat} {P : Nat → Value → Prop} {St : Nat → Shared → Prop} {R : Result → Shared → Prop}
end
section
variable {X : Cx}
def tLR (K : PySem.W.Frag) (t : TE) : TE := fun σ H Q => t σ H fun v H1 => ∃ a xs, v = .ref a ∧ SqL K H1 a xs ∧ ∀ l, H1 l = none → Q (.ref l) (upd H1 l (.lst xs.reverse))
end
end L3

set_option Elab.async false
set_option linter.all false
set_option maxRecDepth 100000
set_option maxHeartbeats 4000000
namespace L3
open PySem PySem.Spec PyProof.Rows L2
abbrev cxC2 (X : Cx) (x x2 : Str) (scope : Scope) (cl : List (Str × Addr)) (C : Addr) (s0 : Shared) (H0 : Hp) (fp : List Addr) : Cx :=
  { X with N := x :: x2 :: X.N, s₀ := s0, H₀ := H0, env := compEnvC scope cl C X.env, outer := X.stack, ex := fp, fn := fun _ => false, pn := [], xe := fun _ _ => False }
structure CompOk2 (X : Cx) (x x2 : Str) (scope : Scope) (cl : List (Str × Addr)) : Prop where
  base : CompOk X x scope cl
  tg2 : scope.names.lookup x2 = some .local
  nd2 : x2 ∉ X.N
  ne : x ≠ x2
def tLC2 (K : PySem.W.Frag) (wi : TI) (tt : TT) (te : TE) : TE := fun σ H Q => wi σ H fun J H1 => ∀ acc, H1 acc = none → ∃ W : Nat → Nat → List V → Hp → Prop, (∃ m, W 0 m [] (upd H1 acc (.lst []))) ∧
  ∀ i m xs H, W i m xs H → H acc = some (.lst xs) ∧ ((J.stop i H ∧ Q (.ref acc) H) ∨ (J.go i H ∧ ∀ y H', J.yld i H y H' → ∃ p va vb, y = .ref p ∧ SqT K H' p [va, vb] ∧
    tt (some va :: some vb :: σ) H' fun ok H2 => if ok = true then te (some va :: some vb :: σ) H2 fun v H3 => H3 acc = some (.lst xs) ∧ xs.length < sizeLine ∧ ∃ m', m' < m ∧ W (i + 1) m' (xs ++ [v]) (upd H3 acc (.lst (xs ++ [v]))) else ∃ m', m' < m ∧ W (i + 1) m' xs H2))
section
variable {X : Cx} {x x2 : Str} {kk : Nat} {py pt : Pos} {scope : Scope} {cl : List (Str × Addr)} {wi : TI} {tt : TT} {te : TE} {elt iter : Expr} {ifs : List Expr} {px pos : Pos}
end
end L3

set_option Elab.async false
set_option linter.all false
set_option maxRecDepth 100000
set_option maxHeartbeats 4000000
namespace HT
open PySem PyProof.Rows
section
variable {prog : Program} {w : World} {A : Around} {E : Value → Shared → Prop} {s : Shared}
end
end HT
namespace L3
open PySem PySem.Spec PyProof.Rows L2
variable {X : Cx}
def rSlTW (K : PySem.W.Frag) : V → Option Int → Option Int → Hp → VK → Prop := fun x lo hi H Q => ∃ a xs, x = .ref a ∧ SqT K H a xs ∧
  ((HT.sIx xs.length 0 lo = 0 ∧ HT.sIx xs.length xs.length hi = xs.length) → Q (.ref a) H) ∧
  (¬ (HT.sIx xs.length 0 lo = 0 ∧ HT.sIx xs.length xs.length hi = xs.length) → ∀ p, H p = none → Q (.ref p) (upd H p (.tup (cutV xs lo hi))))
end L3

set_option Elab.async false
set_option linter.all false
set_option maxRecDepth 100000
set_option maxHeartbeats 4000000
/-! list + list, whoever holds them; in of data -/
namespace L3
open PySem PySem.Spec PyProof.Rows L2 PySem.AutoSeq1
section
variable {X : Cx}
def rCatS (K : PySem.W.Frag) : R2 := fun x y H Q => ∃ l b xs zs, x = .ref l ∧ y = .ref b ∧ SqL K H l xs ∧ SqL K H b zs ∧ xs.length + zs.length ≤ sizeLine ∧ ∀ p, H p = none → Q (.ref p) (upd H p (.lst (xs ++ zs)))
/-- x in a list or a tuple, by the data -/
def rInD (K : PySem.W.Frag) (neg : Bool) : R2 := fun x y H Q => ∃ d ds, DV K H x d ∧ (DV K H y (.list ds) ∨ DV K H y (.tuple ds)) ∧ okD d = true ∧ okD (.list ds) = true ∧ Q (.bl (if neg then !(ds.any fun y => PyData.eqv y d) else ds.any fun y => PyData.eqv y d)) H
end
end L3

set_option Elab.async false
set_option linter.all false
set_option maxRecDepth 100000
set_option maxHeartbeats 4000000
/-! a comprehension whose name is a name of the def -/
namespace L3
open PySem PySem.Spec PyProof.Rows L2
/-- the same where the comprehension's name is a name of the def, too: the def's names as the block sees them -/
abbrev cxN (X : Cx) (N' : List Str) (x : Str) (scope : Scope) (cl : List (Str × Addr)) (C : Addr) (s0 : Shared) (H0 : Hp) (fp : List Addr) : Cx :=
  { X with N := x :: N', s₀ := s0, H₀ := H0, env := compEnvC scope cl C X.env, outer := X.stack, ex := fp, fn := fun _ => false, pn := [], xe := fun _ _ => False }
structure CompOkN (X : Cx) (N' : List Str) (x : Str) (scope : Scope) (cl : List (Str × Addr)) : Prop where
  clos : closureFor scope X.env = pure cl
  sub : ∀ y c, cl.lookup y = some c → X.env.cells.lookup y = some c
  has : ∀ y, (relabel scope X.env).names.lookup y = some .cell ∨ (relabel scope X.env).names.lookup y = some .free → ∃ c, cl.lookup y = some c
  nocell : ∀ y ∈ scope.names, y.2 ≠ .cell
  kind : scope.kind = .function
  names : ∀ y ∈ scope.names, y.2 = .local → scope.names.lookup y.1 = some .local
  tgt : scope.names.lookup x = some .local
  cellv : ∀ y ∈ N', Vis (relabel scope X.env) y → ((relabel scope X.env).names.lookup y = some .cell ∨ (relabel scope X.env).names.lookup y = some .free) ∧ (X.env.scope.names.lookup y = some .cell ∨ X.env.scope.names.lookup y = some .free)
  nd : (x :: N').Nodup
  len : N'.length = X.N.length
  at_ : ∀ (i : Nat) (y : Str), N'[i]? = some y → Vis (relabel scope X.env) y → X.N[i]? = some y
section
variable {X : Cx} {N' : List Str} {x : Str} {scope : Scope} {cl : List (Str × Addr)} {wi : TI} {tt : TT} {te : TE} {elt iter : Expr} {ifs : List Expr} {px pos : Pos}
end
end L3

set_option Elab.async false
set_option linter.all false
set_option maxRecDepth 100000
set_option maxHeartbeats 4000000
/-! DATA READINGS: each expression and statement of the text as a plain function over data. -/
namespace D3
open PySem PySem.Spec PyProof.Rows L2 L3

/-! ### what a name holds, what an expression tells -/
/-- the refusals' classes by their names -/
inductive Ex where
  | BelowError | NoNumber | NoCurve | TooGreat | NoStretch | NoNear | NoPieces | NoText | NoRow | NoName
  deriving DecidableEq
class Ecx where
  at_ : Ex → Addr
abbrev ecx [Ecx] (n : Ex) : Addr := Ecx.at_ n
inductive Sl where
  | no
  | dat (d : PyData)
  | own (ds : List PyData)
  | exc (C : Ex)
inductive Rz where
  | dat (d : PyData)
  | new (ds : List PyData)
  | use (d : PyData)
  | var (ds : List PyData)
  | exc (C : Ex)
def Rz.d? : Rz → Option PyData
  | .dat d => some d
  | .new ds => some (.list ds)
  | .use d => some d
  | .var ds => some (.list ds)
  | .exc _ => none
inductive Res (α : Type) where
  | ok (a : α)
  | err (C : Ex)
abbrev M (α : Type) := Option (Res α)
def bnd {α β : Type} (m : M α) (k : α → M β) : M β :=
  match m with
  | some (.ok a) => k a
  | some (.err C) => some (.err C)
  | none => none
def okM {α : Type} (a : α) : M α := some (.ok a)
theorem bnd_okM {α β : Type} (a : α) (k : α → M β) : bnd (okM a) k = k a := rfl
/-! ### heaps with lists of one's own -/
def hid (H : Hp) (S : Addr → Bool) : Hp := fun b => if S b = true then none else H b
theorem hid_f {H : Hp} {S : Addr → Bool} {b : Addr} (h : S b = false) : hid H S b = H b := by unfold hid; rw [h]; rfl
theorem hid_t {H : Hp} {S : Addr → Bool} {b : Addr} (h : S b = true) : hid H S b = none := by unfold hid; rw [h]; rfl
theorem hid_up {H : Hp} {S : Addr → Bool} : Same (hid H S) H := fun b o h => by
  by_cases c : S b = true
  · rw [hid_t c] at h; cases h
  · rw [hid_f (by simpa using c)] at h; exact h
theorem same_hid {H H' : Hp} {S : Addr → Bool} (g : Same H H') : Same (hid H S) (hid H' S) := fun b o h => by
  by_cases c : S b = true
  · rw [hid_t c] at h; cases h
  · rw [hid_f (by simpa using c)] at h ⊢; exact g b o h
structure Ext (H : Hp) (S : Addr → Bool) (H' : Hp) (S' : Addr → Bool) : Prop where
  up : Same H H'
  hd : Same (hid H S) (hid H' S')
  sub : ∀ b, S b = true → S' b = true
  new : ∀ b, S' b = true → S b = true ∨ (H b = none ∧ ∃ xs, H' b = some (.lst xs))
theorem Ext.refl {H : Hp} {S : Addr → Bool} : Ext H S H S := ⟨Same.refl _, Same.refl _, fun _ h => h, fun _ h => .inl h⟩
theorem Ext.same {H H' : Hp} {S : Addr → Bool} (g : Same H H') : Ext H S H' S := ⟨g, same_hid g, fun _ h => h, fun _ h => .inl h⟩
theorem Ext.trans {H H1 H2 : Hp} {S S1 S2 : Addr → Bool} (a : Ext H S H1 S1) (b : Ext H1 S1 H2 S2) : Ext H S H2 S2 :=
  ⟨a.up.trans b.up, a.hd.trans b.hd, fun c h => b.sub c (a.sub c h), fun c h => by
    rcases b.new c h with h | ⟨h, xs, e⟩
    · rcases a.new c h with h | ⟨h, xs, e⟩
      · exact .inl h
      · exact .inr ⟨h, xs, b.up _ _ e⟩
    · exact .inr ⟨a.up.free h, xs, e⟩⟩
/-- a new list of one's own -/
def ins (S : Addr → Bool) (a : Addr) : Addr → Bool := fun b => if b = a then true else S b
def del (S : Addr → Bool) (a : Addr) : Addr → Bool := fun b => if b = a then false else S b
theorem ins_same {S : Addr → Bool} {a : Addr} : ins S a a = true := by unfold ins; rw [if_pos rfl]
theorem ins_ne {S : Addr → Bool} {a b : Addr} (h : b ≠ a) : ins S a b = S b := by unfold ins; rw [if_neg h]
theorem del_same {S : Addr → Bool} {a : Addr} : del S a a = false := by unfold del; rw [if_pos rfl]
theorem del_ne {S : Addr → Bool} {a b : Addr} (h : b ≠ a) : del S a b = S b := by unfold del; rw [if_neg h]
theorem hid_ins {H : Hp} {S : Addr → Bool} {a : Addr} {o : HO} (h : H a = none) : hid (upd H a o) (ins S a) = hid H S := by
  funext b
  by_cases c : b = a
  · subst c
    rw [hid_t ins_same]
    cases e : S b with
    | true => rw [hid_t e]
    | false => rw [hid_f e, h]
  · cases e : S b with
    | true => rw [hid_t e, hid_t (by rw [ins_ne c]; exact e)]
    | false => rw [hid_f e, hid_f (by rw [ins_ne c]; exact e), upd_ne c]
theorem Ext.ins {H : Hp} {S : Addr → Bool} {a : Addr} {xs : List V} (h : H a = none) : Ext H S (upd H a (.lst xs)) (ins S a) :=
  ⟨same_new h _, by rw [hid_ins h]; exact Same.refl _, fun b hb => by
    unfold D3.ins; split
    · rfl
    · exact hb, fun b hb => by
    by_cases c : b = a
    · subst c; exact .inr ⟨h, xs, upd_same⟩
    · rw [ins_ne c] at hb; exact .inl hb⟩
theorem same_del {H : Hp} {S : Addr → Bool} {a : Addr} : Same (hid H S) (hid H (del S a)) := fun b o h => by
  by_cases c : b = a
  · subst c; rw [hid_f del_same]; exact hid_up _ _ h
  · cases e : S b with
    | true => rw [hid_t e] at h; cases h
    | false => rw [hid_f e] at h; rw [hid_f (by rw [del_ne c]; exact e)]; exact h

/-! ### a value by what is told of it -/
variable [Ecx]
def RV (K : PySem.W.Frag) (H H' : Hp) (S' : Addr → Bool) (v : V) : Rz → Prop
  | .dat d => DV K (hid H' S') v d
  | .new ds => ∃ a xs, v = .ref a ∧ S' a = true ∧ H a = none ∧ H' a = some (.lst xs) ∧ DVs K (hid H' S') xs ds
  | .use d => DV K H' v d
  | .var ds => ∃ a xs, v = .ref a ∧ S' a = true ∧ H' a = some (.lst xs) ∧ DVs K (hid H' S') xs ds
  | .exc C => ∃ ea, v = .ref ea ∧ hid H' S' ea = some (excO ea (.ref (ecx C)))
theorem RV.ext {K : PySem.W.Frag} {H H1 H2 : Hp} {S1 S2 : Addr → Bool} {v : V} {r : Rz} (h : RV K H H1 S1 v r) (g : Ext H1 S1 H2 S2) : RV K H H2 S2 v r := by
  cases r with
  | dat x => exact DV.same g.hd h
  | new ds =>
    obtain ⟨a, xs, e, z, n, ha, hx⟩ := h
    exact ⟨a, xs, e, g.sub a z, n, g.up _ _ ha, DVs.same g.hd hx⟩
  | use x => exact DV.same g.up h
  | var ds =>
    obtain ⟨a, xs, e, z, ha, hx⟩ := h
    exact ⟨a, xs, e, g.sub a z, g.up _ _ ha, DVs.same g.hd hx⟩
  | exc C =>
    obtain ⟨ea, e, z⟩ := h
    exact ⟨ea, e, g.hd _ _ z⟩
/-- told from a later heap: fine for an earlier one -/
theorem RV.back {K : PySem.W.Frag} {H H1 H2 : Hp} {S1 S2 : Addr → Bool} {v : V} {r : Rz} (g : Ext H S1 H1 S2) {S' : Addr → Bool} (h : RV K H1 H2 S' v r) : RV K H H2 S' v r := by
  cases r with
  | dat x => exact h
  | new ds =>
    obtain ⟨a, xs, e, z, n, ha, hx⟩ := h
    exact ⟨a, xs, e, z, g.up.free n, ha, hx⟩
  | use x => exact h
  | var ds => exact h
  | exc C => exact h

structure Loc (K : PySem.W.Frag) (H0 : Hp) (σ : L2.St) (H : Hp) (δ : List Sl) (S : Addr → Bool) : Prop where
  old : Same H0 H
  frs : ∀ b, S b = true → H0 b = none
  lst : ∀ b, S b = true → ∃ xs, H b = some (.lst xs)
  len : σ.length = δ.length
  dat : ∀ (i : Nat) (d : PyData), δ[i]? = some (Sl.dat d) → ∃ v, σ[i]? = some (some v) ∧ DV K (hid H S) v d
  exc : ∀ (i : Nat) (C : Ex), δ[i]? = some (Sl.exc C) → ∃ ea : Addr, σ[i]? = some (some (.ref ea)) ∧ hid H S ea = some (excO ea (.ref (ecx C)))
  own : ∀ (i : Nat) (ds : List PyData), δ[i]? = some (Sl.own ds) → ∃ (a : Addr) (xs : List V), σ[i]? = some (some (.ref a)) ∧ S a = true ∧ H a = some (.lst xs) ∧ DVs K (hid H S) xs ds
  one : ∀ (i j : Nat) (ds es : List PyData) (a : Addr), δ[i]? = some (Sl.own ds) → δ[j]? = some (Sl.own es) → σ[i]? = some (some (.ref a)) → σ[j]? = some (some (.ref a)) → i = j
section
variable {K : PySem.W.Frag} {H0 H H' : Hp} {σ : L2.St} {δ : List Sl} {S S' : Addr → Bool}
theorem Loc.ext (L : Loc K H0 σ H δ S) (g : Ext H S H' S') : Loc K H0 σ H' δ S' := by
  refine ⟨L.old.trans g.up, fun b h => ?_, fun b h => ?_, L.len, fun i d e => ?_, fun i C e => ?_, fun i ds e => ?_, L.one⟩
  · rcases g.new b h with h | ⟨h, _⟩
    · exact L.frs b h
    · exact L.old.free h
  · rcases g.new b h with h | ⟨_, h⟩
    · obtain ⟨xs, e⟩ := L.lst b h
      exact ⟨xs, g.up _ _ e⟩
    · exact h
  · obtain ⟨v, e1, e2⟩ := L.dat i d e
    exact ⟨v, e1, DV.same g.hd e2⟩
  · obtain ⟨v, e1, e2⟩ := L.exc i C e
    exact ⟨v, e1, g.hd _ _ e2⟩
  · obtain ⟨a, xs, e1, e2, e3, e4⟩ := L.own i ds e
    exact ⟨a, xs, e1, g.sub _ e2, g.up _ _ e3, DVs.same g.hd e4⟩
/-- the hidden heap as the ground -/
theorem Loc.ground (L : Loc K H0 σ H δ S) : Loc K (hid H S) σ H δ S := ⟨hid_up, fun _ h => hid_t h, L.lst, L.len, L.dat, L.exc, L.own, L.one⟩
theorem Loc.base (L : Loc K H0 σ H δ S) : Same H0 (hid H S) := fun b o h => by
  cases e : S b with
  | true => rw [L.frs b e] at h; cases h
  | false => rw [hid_f e]; exact L.old b o h
theorem set_get {α : Type} {xs : List α} {i j : Nat} {v w : α} (h : (xs.set i v)[j]? = some w) : (i = j ∧ w = v ∧ i < xs.length) ∨ (i ≠ j ∧ xs[j]? = some w) := by
  rw [List.getElem?_set] at h
  split at h
  · rename_i e
    split at h
    · exact .inl ⟨e, (Option.some.inj h).symm, by assumption⟩
    · cases h
  · rename_i e; exact .inr ⟨e, h⟩
/-- any name let go, or given a plain value -/
theorem Loc.put {i : Nat} {o : Option V} {s : Sl} (L : Loc K H0 σ H δ S) (hs : ∀ ds, s ≠ .own ds) (hd : ∀ d, s = .dat d → ∃ v, o = some v ∧ DV K (hid H S) v d)
    (hx : ∀ C, s = .exc C → ∃ ea, o = some (.ref ea) ∧ hid H S ea = some (excO ea (.ref (ecx C)))) : Loc K H0 (σ.set i o) H (δ.set i s) S := by
  refine ⟨L.old, L.frs, L.lst, by rw [List.length_set, List.length_set]; exact L.len, fun j d e => ?_, fun j C e => ?_, fun j ds e => ?_, fun j k ds es a e1 e2 e3 e4 => ?_⟩
  · rcases set_get e with ⟨rfl, e, hl⟩ | ⟨hne, e⟩
    · obtain ⟨v, rfl, q⟩ := hd d e.symm
      exact ⟨v, by rw [List.getElem?_set_self (by rw [L.len]; exact hl)], q⟩
    · obtain ⟨v, e1, q⟩ := L.dat j d e
      exact ⟨v, by rw [List.getElem?_set_ne hne]; exact e1, q⟩
  · rcases set_get e with ⟨rfl, e, hl⟩ | ⟨hne, e⟩
    · obtain ⟨v, rfl, q⟩ := hx C e.symm
      exact ⟨v, by rw [List.getElem?_set_self (by rw [L.len]; exact hl)], q⟩
    · obtain ⟨v, e1, q⟩ := L.exc j C e
      exact ⟨v, by rw [List.getElem?_set_ne hne]; exact e1, q⟩
  · rcases set_get e with ⟨rfl, e, hl⟩ | ⟨hne, e⟩
    · exact absurd e.symm (hs ds)
    · obtain ⟨a, xs, e1, q⟩ := L.own j ds e
      exact ⟨a, xs, by rw [List.getElem?_set_ne hne]; exact e1, q⟩
  · rcases set_get e1 with ⟨_, e, _⟩ | ⟨n1, e1⟩
    · exact absurd e.symm (hs ds)
    · rcases set_get e2 with ⟨_, e, _⟩ | ⟨n2, e2⟩
      · exact absurd e.symm (hs es)
      · rw [List.getElem?_set_ne n1] at e3
        rw [List.getElem?_set_ne n2] at e4
        exact L.one j k ds es a e1 e2 e3 e4
/-- a list of one's own, that no other name holds -/
theorem Loc.putOwn {i : Nat} {a : Addr} {xs : List V} {ds : List PyData} (L : Loc K H0 σ H δ S) (hS : S a = true) (ha : H a = some (.lst xs)) (hx : DVs K (hid H S) xs ds)
    (hn : ∀ (j : Nat) (es : List PyData), δ[j]? = some (Sl.own es) → σ[j]? ≠ some (some (V.ref a))) : Loc K H0 (σ.set i (some (.ref a))) H (δ.set i (.own ds)) S := by
  refine ⟨L.old, L.frs, L.lst, by rw [List.length_set, List.length_set]; exact L.len, fun j d e => ?_, fun j C e => ?_, fun j ds' e => ?_, fun j k ds1 es b e1 e2 e3 e4 => ?_⟩
  · rcases set_get e with ⟨rfl, e, hl⟩ | ⟨hne, e⟩
    · cases e
    · obtain ⟨v, e1, q⟩ := L.dat j d e
      exact ⟨v, by rw [List.getElem?_set_ne hne]; exact e1, q⟩
  · rcases set_get e with ⟨rfl, e, hl⟩ | ⟨hne, e⟩
    · cases e
    · obtain ⟨v, e1, q⟩ := L.exc j C e
      exact ⟨v, by rw [List.getElem?_set_ne hne]; exact e1, q⟩
  · rcases set_get e with ⟨rfl, e, hl⟩ | ⟨hne, e⟩
    · cases e
      exact ⟨a, xs, by rw [List.getElem?_set_self (by rw [L.len]; exact hl)], hS, ha, hx⟩
    · obtain ⟨b, ys, e1, q⟩ := L.own j ds' e
      exact ⟨b, ys, by rw [List.getElem?_set_ne hne]; exact e1, q⟩
  · rcases set_get e1 with ⟨h1, f1, l1⟩ | ⟨n1, f1⟩
    · subst h1
      rw [List.getElem?_set_self (by rw [L.len]; exact l1)] at e3
      cases e3
      rcases set_get e2 with ⟨h2, f2, l2⟩ | ⟨n2, f2⟩
      · exact h2
      · rw [List.getElem?_set_ne n2] at e4
        exact absurd e4 (hn k es f2)
    · rw [List.getElem?_set_ne n1] at e3
      rcases set_get e2 with ⟨h2, f2, l2⟩ | ⟨n2, f2⟩
      · subst h2
        rw [List.getElem?_set_self (by rw [L.len]; exact l2)] at e4
        cases e4
        exact absurd e3 (hn j ds1 f1)
      · rw [List.getElem?_set_ne n2] at e4
        exact L.one j k ds1 es b f1 f2 e3 e4
/-- things without lists are seen in the hidden heap too -/
theorem Loc.tk (L : Loc K H0 σ H δ S) : TK H (hid H S) := ⟨fun a xs h => by
    cases e : S a with
    | true => obtain ⟨ys, z⟩ := L.lst a e; rw [h] at z; cases z
    | false => rw [hid_f e]; exact h, fun a o u h => by
    cases e : S a with
    | true => obtain ⟨ys, z⟩ := L.lst a e; rw [h] at z; cases z
    | false => rw [hid_f e]; exact h⟩
end
end D3

set_option Elab.async false
set_option linter.all false
set_option maxRecDepth 100000
set_option maxHeartbeats 4000000
namespace D3
open PySem PySem.Spec PyProof.Rows L2 L3
/-! ### the judgements -/
variable [Ecx]
def EndE (K : PySem.W.Frag) (E : XK) (H : Hp) (S : Addr → Bool) (Q : VK) : Res Rz → Prop
  | .ok z => ∀ v H' S', Ext H S H' S' → RV K H H' S' v z → Q v H'
  | .err C => ∀ H' S', Ext H S H' S' → E (.ref (ecx C)) none H'
def RdE (K : PySem.W.Frag) (E : XK) (t : TE) (f : List Sl → M Rz) : Prop :=
  ∀ (H0 : Hp) (σ : L2.St) (H : Hp) (δ : List Sl) (S : Addr → Bool) (Q : VK) (r : Res Rz), Loc K H0 σ H δ S → f δ = some r → EndE K E H S Q r → t σ H Q
def DE (X : Cx) (E : XK) (e : Expr) (f : List Sl → M Rz) : Prop := ∃ t, PE X e t ∧ RdE X.K E t f
def EndT (E : XK) (H : Hp) (S : Addr → Bool) (Q : Bool → Hp → Prop) : Res Bool → Prop
  | .ok z => ∀ H' S', Ext H S H' S' → Q z H'
  | .err C => ∀ H' S', Ext H S H' S' → E (.ref (ecx C)) none H'
def RdT (K : PySem.W.Frag) (E : XK) (t : TT) (f : List Sl → M Bool) : Prop :=
  ∀ (H0 : Hp) (σ : L2.St) (H : Hp) (δ : List Sl) (S : Addr → Bool) (Q : Bool → Hp → Prop) (r : Res Bool), Loc K H0 σ H δ S → f δ = some r → EndT E H S Q r → t σ H Q
def DT (X : Cx) (E : XK) (e : Expr) (f : List Sl → M Bool) : Prop := ∃ t, PT X e t ∧ RdT X.K E t f
def DW (X : Cx) (E : XK) (e : Expr) (f : List Sl → M Bool) : Prop := ∃ t, PW X e t ∧ RdT X.K E t f
theorem DW.pt {X : Cx} {E : XK} {e : Expr} {f : List Sl → M Bool} (h : DW X E e f) : DT X E e f := let ⟨t, a, b⟩ := h; ⟨t, a.pt, b⟩
inductive RVs (K : PySem.W.Frag) (H H' : Hp) (S' : Addr → Bool) : List V → List Rz → Prop
  | nil : RVs K H H' S' [] []
  | cons {v : V} {vs : List V} {r : Rz} {rs : List Rz} : RV K H H' S' v r → RVs K H H' S' vs rs → RVs K H H' S' (v :: vs) (r :: rs)
def EndA (K : PySem.W.Frag) (E : XK) (H : Hp) (S : Addr → Bool) (Q : List V → Hp → Prop) : Res (List Rz) → Prop
  | .ok z => ∀ vs H' S', Ext H S H' S' → RVs K H H' S' vs z → Q vs H'
  | .err C => ∀ H' S', Ext H S H' S' → E (.ref (ecx C)) none H'
def RdA (K : PySem.W.Frag) (E : XK) (t : TA) (f : List Sl → M (List Rz)) : Prop :=
  ∀ (H0 : Hp) (σ : L2.St) (H : Hp) (δ : List Sl) (S : Addr → Bool) (Q : List V → Hp → Prop) (r : Res (List Rz)), Loc K H0 σ H δ S → f δ = some r → EndA K E H S Q r → t σ H Q
def DA (X : Cx) (E : XK) (es : List Expr) (f : List Sl → M (List Rz)) : Prop := ∃ t, PA X es t ∧ RdA X.K E t f
theorem EndE.ext {K : PySem.W.Frag} {E : XK} {H H1 : Hp} {S S1 : Addr → Bool} {Q : VK} {r : Res Rz} (g : Ext H S H1 S1) (h : EndE K E H S Q r) : EndE K E H1 S1 Q r := by
  cases r with
  | ok z => exact fun v H' S' g' rv => h v H' S' (g.trans g') (rv.back g)
  | err C => exact fun H' S' g' => h H' S' (g.trans g')
theorem EndT.ext {E : XK} {H H1 : Hp} {S S1 : Addr → Bool} {Q : Bool → Hp → Prop} {r : Res Bool} (g : Ext H S H1 S1) (h : EndT E H S Q r) : EndT E H1 S1 Q r := by
  cases r with
  | ok z => exact fun H' S' g' => h H' S' (g.trans g')
  | err C => exact fun H' S' g' => h H' S' (g.trans g')
theorem RVs.ext {K : PySem.W.Frag} {H H1 H2 : Hp} {S1 S2 : Addr → Bool} (g : Ext H1 S1 H2 S2) : ∀ {vs : List V} {rs : List Rz}, RVs K H H1 S1 vs rs → RVs K H H2 S2 vs rs
  | _, _, .nil => .nil
  | _, _, .cons h t => .cons (h.ext g) (RVs.ext g t)
theorem RVs.back {K : PySem.W.Frag} {H H1 H2 : Hp} {S1 S2 S' : Addr → Bool} (g : Ext H S1 H1 S2) : ∀ {vs : List V} {rs : List Rz}, RVs K H1 H2 S' vs rs → RVs K H H2 S' vs rs
  | _, _, .nil => .nil
  | _, _, .cons h t => .cons (h.back g) (RVs.back g t)
theorem EndA.ext {K : PySem.W.Frag} {E : XK} {H H1 : Hp} {S S1 : Addr → Bool} {Q : List V → Hp → Prop} {r : Res (List Rz)} (g : Ext H S H1 S1) (h : EndA K E H S Q r) : EndA K E H1 S1 Q r := by
  cases r with
  | ok z => exact fun v H' S' g' rv => h v H' S' (g.trans g') (rv.back g)
  | err C => exact fun H' S' g' => h H' S' (g.trans g')

/-! ### names and constants -/
section
variable {X : Cx} {E : XK}
def fVar (i : Nat) (δ : List Sl) : M Rz :=
  match δ[i]? with
  | some (.dat d) => okM (.dat d)
  | some (.own ds) => okM (.var ds)
  | some (.exc C) => okM (.exc C)
  | _ => none
def fC (d : PyData) (_ : List Sl) : M Rz := okM (.dat d)
/-! ### two operands -/
def OpD (K : PySem.W.Frag) (E : XK) (r : R2) (g : Rz → Rz → M Rz) : Prop :=
  ∀ (H0 : Hp) (σ : L2.St) (H : Hp) (δ : List Sl) (S : Addr → Bool) (Ha Hb : Hp) (v w : V) (x y : Rz) (z : Res Rz) (Q : VK), Loc K H0 σ H δ S → RV K Ha H S v x → RV K Hb H S w y → g x y = some z → EndE K E H S Q z → r v w H Q
def f2 (g : Rz → Rz → M Rz) (fa fb : List Sl → M Rz) (δ : List Sl) : M Rz := bnd (fa δ) fun x => bnd (fb δ) fun y => g x y
/-- a bool told -/
def boolOf (x : Rz) : M Bool :=
  match x.d? with
  | some (.bool b) => okM b
  | _ => none
def fB (f : List Sl → M Rz) (δ : List Sl) : M Bool := bnd (f δ) boolOf
/-! ### and, or, not -/
def fNot (f : List Sl → M Bool) (δ : List Sl) : M Bool := bnd (f δ) fun b => okM (!b)
def fAnd (f g : List Sl → M Bool) (δ : List Sl) : M Bool := bnd (f δ) fun b => if b = true then g δ else okM false
def fOr (f g : List Sl → M Bool) (δ : List Sl) : M Bool := bnd (f δ) fun b => if b = true then okM true else g δ
variable {a b : Expr} {rest : List Expr} {pos : Pos}
/-- as values -/
def fV (f : List Sl → M Bool) (δ : List Sl) : M Rz := bnd (f δ) fun b => okM (.dat (.bool b))
def fIf (c : List Sl → M Bool) (f g : List Sl → M Rz) (δ : List Sl) : M Rz := bnd (c δ) fun b => if b = true then f δ else g δ
end
end D3

set_option Elab.async false
set_option linter.all false
set_option maxRecDepth 100000
set_option maxHeartbeats 4000000
namespace D3
open PySem PySem.Spec PyProof.Rows L2 L3
variable [Ecx]
/-! ### lists of data -/
theorem DVs.len {K : PySem.W.Frag} {H : Hp} : ∀ {xs : List V} {ds : List PyData}, DVs K H xs ds → xs.length = ds.length
  | _, _, .nil => rfl
  | _, _, .cons _ t => by rw [List.length_cons, List.length_cons, DVs.len t]
theorem DVs.get {K : PySem.W.Frag} {H : Hp} : ∀ {xs : List V} {ds : List PyData} {i : Nat} {d : PyData}, DVs K H xs ds → ds[i]? = some d → ∃ v, xs[i]? = some v ∧ DV K H v d
  | _, _, _, _, .nil, h => by simp at h
  | _, _, 0, _, .cons h _, e => by simp at e; subst e; exact ⟨_, rfl, h⟩
  | _, _, i + 1, _, .cons _ t, e => by
    have e' : _ := e
    simp at e'
    obtain ⟨v, h1, h2⟩ := DVs.get t e'
    exact ⟨v, by simpa using h1, h2⟩
theorem DVs.atI {K : PySem.W.Frag} {H : Hp} {xs : List V} {ds : List PyData} {i : Int} {d : PyData} (h : DVs K H xs ds) (e : L2.atI ds i = some d) : ∃ v, L2.atI xs i = some v ∧ DV K H v d := by
  unfold L2.atI at e ⊢
  rw [DVs.len h]
  cases q : ixN ds.length i with
  | none => rw [q] at e; cases e
  | some j => rw [q] at e; exact DVs.get h e
theorem DVs.append {K : PySem.W.Frag} {H : Hp} {ys : List V} {es : List PyData} (b : DVs K H ys es) : ∀ {xs : List V} {ds : List PyData}, DVs K H xs ds → DVs K H (xs ++ ys) (ds ++ es)
  | _, _, .nil => b
  | _, _, .cons h t => .cons h (DVs.append b t)
theorem DVs.drop {K : PySem.W.Frag} {H : Hp} : ∀ (n : Nat) {xs : List V} {ds : List PyData}, DVs K H xs ds → DVs K H (xs.drop n) (ds.drop n)
  | 0, _, _, h => h
  | n + 1, _, _, .nil => .nil
  | n + 1, _, _, .cons _ t => DVs.drop n t
theorem DVs.take {K : PySem.W.Frag} {H : Hp} : ∀ (n : Nat) {xs : List V} {ds : List PyData}, DVs K H xs ds → DVs K H (xs.take n) (ds.take n)
  | 0, _, _, h => by simp; exact .nil
  | n + 1, _, _, .nil => .nil
  | n + 1, _, _, .cons h t => .cons h (DVs.take n t)
theorem DVs.set {K : PySem.W.Frag} {H : Hp} {v : V} {d : PyData} (hv : DV K H v d) : ∀ (j : Nat) {xs : List V} {ds : List PyData}, DVs K H xs ds → DVs K H (xs.set j v) (ds.set j d)
  | _, _, _, .nil => .nil
  | 0, _, _, .cons _ t => .cons hv t
  | j + 1, _, _, .cons h t => .cons h (DVs.set hv j t)
theorem DVs.rep {K : PySem.W.Frag} {H : Hp} {xs : List V} {ds : List PyData} (h : DVs K H xs ds) : ∀ n : Nat, DVs K H (List.replicate n xs).flatten (List.replicate n ds).flatten
  | 0 => .nil
  | n + 1 => by rw [List.replicate_succ, List.replicate_succ, List.flatten_cons, List.flatten_cons]; exact DVs.append (DVs.rep h n) h
theorem DVs.dropLast {K : PySem.W.Frag} {H : Hp} {xs : List V} {ds : List PyData} (h : DVs K H xs ds) : DVs K H xs.dropLast ds.dropLast := by
  rw [List.dropLast_eq_take, List.dropLast_eq_take, DVs.len h]; exact DVs.take _ h
/-- its items, where a thing is a list or a tuple; those that are told of lists of one's own are seen in the hidden heap -/
def seqOf (x : Rz) : Option (Bool × List PyData) :=
  match x.d? with
  | some (.list ds) => some (true, ds)
  | some (.tuple ds) => some (false, ds)
  | _ => none
/-- the items may be kept: they hold no list that may be changed -/
def kept (x : Rz) (ds : List PyData) : Bool :=
  match x with
  | .use _ => noLs ds
  | _ => true
/-! ### numbers -/
def gI (g : Int → Int → Option PyData) (x y : Rz) : M Rz :=
  match x.d?, y.d? with
  | some (.int i), some (.int j) => (match g i j with | some d => okM (.dat d) | none => none)
  | _, _ => none
open Classical in
noncomputable def gMul (i j : Int) : Option PyData := if IntMulOk i j then some (.int (i * j)) else none
open Classical in
noncomputable def gFdiv (i j : Int) : Option PyData := if j ≠ 0 ∧ j.natAbs < 2 ^ 9000 then some (.int (i.fdiv j)) else none
def gAdd (i j : Int) : Option PyData := some (.int (i + j))
def gSub (i j : Int) : Option PyData := some (.int (i - j))
def gMod (i j : Int) : Option PyData := if j = 0 then none else some (.int (i.fmod j))
open Classical in
noncomputable def gPow (i j : Int) : Option PyData := if CPow i j then some (.int (i ^ j.toNat)) else none
def gLt (i j : Int) : Option PyData := some (.bool (decide (i < j)))
def gLe (i j : Int) : Option PyData := some (.bool (decide (i ≤ j)))
def gGt (i j : Int) : Option PyData := some (.bool (decide (j < i)))
def gGe (i j : Int) : Option PyData := some (.bool (decide (j ≤ i)))
section
variable {K : PySem.W.Frag} {E : XK}
/-! ### ==, is -/
def gEq (neg : Bool) (x y : Rz) : M Rz :=
  match x.d?, y.d? with
  | some d, some e => if okD d = true ∧ okD e = true then okM (.dat (.bool (if neg then !PyData.eqv d e else PyData.eqv d e))) else none
  | _, _ => none
def isNone (x : Rz) : Option Bool :=
  match x with
  | .exc _ => some false
  | .dat .none => some true
  | .dat _ => some false
  | .use .none => some true
  | .use _ => some false
  | _ => some false
def gIs (neg : Bool) (x y : Rz) : M Rz :=
  match y.d?, isNone x with
  | some .none, some b => okM (.dat (.bool (if neg then !b else b)))
  | _, _ => none
/-! ### items -/
def itemD (x : Rz) (d : PyData) : Rz :=
  match x with
  | .use _ => if noL d = true then .dat d else .use d
  | _ => .dat d
def gIx (x y : Rz) : M Rz :=
  match seqOf x, y.d? with
  | some (_, ds), some (.int i) => (match L2.atI ds i with | some d => okM (itemD x d) | none => none)
  | _, _ => none
/-! ### list + list, list * int -/
def ownOf (x : Rz) : Option (List PyData) :=
  match x with
  | .new ds => some ds
  | .var ds => some ds
  | _ => none
def gCat (x y : Rz) : M Rz :=
  match ownOf x, ownOf y with
  | some ds, some es => if ds.length + es.length ≤ sizeLine then okM (.new (ds ++ es)) else none
  | _, _ => none
def gRep (x y : Rz) : M Rz :=
  match ownOf x, y.d? with
  | some ds, some (.int k) => if -(2 ^ 63) ≤ k ∧ k < 2 ^ 63 ∧ ds.length * k.toNat ≤ sizeLine then okM (.new (List.replicate k.toNat ds).flatten) else none
  | _, _ => none
/-- tuple + tuple, the first not empty -/
def gCatT (x y : Rz) : M Rz :=
  match x.d?, y.d? with
  | some (.tuple ds), some (.tuple es) => if ds ≠ [] ∧ ds.length + es.length ≤ sizeLine ∧ kept x ds = true ∧ kept y es = true then okM (.dat (.tuple (ds ++ es))) else none
  | _, _ => none
end
end D3

set_option Elab.async false
set_option linter.all false
set_option maxRecDepth 100000
set_option maxHeartbeats 4000000
namespace D3
open PySem PySem.Spec PyProof.Rows L2 L3
variable [Ecx]
section
variable {X : Cx} {E : XK} {K : PySem.W.Frag}
/-! ### argument lists -/
def fNil (_ : List Sl) : M (List Rz) := okM []
def fCons (f : List Sl → M Rz) (g : List Sl → M (List Rz)) (δ : List Sl) : M (List Rz) := bnd (f δ) fun x => bnd (g δ) fun xs => okM (x :: xs)
/-! ### calls of built-ins -/
def CallD (K : PySem.W.Frag) (E : XK) (r : List V → Hp → VK → Prop) (g : List Rz → M Rz) : Prop :=
  ∀ (H0 : Hp) (σ : L2.St) (H : Hp) (δ : List Sl) (S : Addr → Bool) (Hs : Hp) (vs : List V) (zs : List Rz) (z : Res Rz) (Q : VK), Loc K H0 σ H δ S → RVs K Hs H S vs zs → g zs = some z → EndE K E H S Q z → r vs H Q
def fCall (g : List Rz → M Rz) (fa : List Sl → M (List Rz)) (δ : List Sl) : M Rz := bnd (fa δ) g
def g1 (g : Rz → M Rz) (zs : List Rz) : M Rz :=
  match zs with
  | [x] => g x
  | _ => none
def g2 (g : Rz → Rz → M Rz) (zs : List Rz) : M Rz :=
  match zs with
  | [x, y] => g x y
  | _ => none
def lenOf (x : Rz) : M Rz :=
  match seqOf x with
  | some (_, ds) => okM (.dat (.int ds.length))
  | none => none
def absOf (x : Rz) : M Rz :=
  match x.d? with
  | some (.int i) => okM (.dat (.int (if i < 0 then -i else i)))
  | _ => none
def intOf (x : Rz) : M Rz :=
  match x.d? with
  | some (.int i) => okM (.dat (.int i))
  | some (.bool b) => okM (.dat (.int (if b then 1 else 0)))
  | _ => none
def gMax (i j : Int) : Option PyData := some (.int (if j > i then j else i))
def gMin (i j : Int) : Option PyData := some (.int (if j < i then j else i))
/-- tuple(x), list(x) -/
def tupleOf (x : Rz) : M Rz :=
  match x.d? with
  | some (.list ds) => if kept x ds = true then okM (.dat (.tuple ds)) else none
  | some (.tuple ds) => if kept x ds = true then okM (.dat (.tuple ds)) else none
  | _ => none
def listOf (x : Rz) : M Rz :=
  match seqOf x with
  | some (_, ds) => if kept x ds = true then okM (.new ds) else none
  | none => none
/-! ### displays -/
def datOf (x : Rz) : Option PyData :=
  match x with
  | .dat d => some d
  | .use d => if noL d = true then some d else none
  | _ => none
def datsOf : List Rz → Option (List PyData)
  | [] => some []
  | x :: xs => match datOf x, datsOf xs with
    | some d, some ds => some (d :: ds)
    | _, _ => none
def gTup (zs : List Rz) : M Rz :=
  match datsOf zs with
  | some ds => if ds.length ≤ sizeLine then okM (.dat (.tuple ds)) else none
  | none => none
def gLst (zs : List Rz) : M Rz :=
  match datsOf zs with
  | some ds => if ds.length ≤ sizeLine then okM (.new ds) else none
  | none => none
end
end D3

set_option Elab.async false
set_option linter.all false
set_option maxRecDepth 100000
set_option maxHeartbeats 4000000
namespace D3
open PySem PySem.Spec PyProof.Rows L2 L3
variable [Ecx]
/-- what a place of the text brings along -/
structure Fit (n : Nat) (X : Cx) (E : XK) : Prop where
  hx : Passes (CXR X.prog X.w) X E
  ra : RaisesTo X E
  po : PassesOwn (model X.prog X.w) X.A X.env X.xe
  cm : X.calm = true
  rm : Room n X.A
  nd : X.N.Nodup
inductive Out where
  | val (d : PyData)
  | fresh (ds : List PyData)
  | mine (d : PyData)
inductive Fl where
  | next (δ : List Sl)
  | ret (o : Out)
  | brk (δ : List Sl)
  | cnt (δ : List Sl)
  | exc (C : Ex)
/-- the heap without the lists that were there before -/
def newL (H0 H : Hp) : Hp := fun b => match H0 b with
  | none => H b
  | some _ => (match H b with | some (.lst _) => none | o => o)
theorem newL_mono {H0 H1 H : Hp} (g : Same H0 H1) : Same (newL H1 H) (newL H0 H) := fun b o h => by
  unfold newL at *
  cases e1 : H1 b with
  | none =>
    rw [e1] at h
    rw [g.free e1]; exact h
  | some u =>
    rw [e1] at h
    dsimp only at h
    cases e0 : H0 b with
    | none =>
      dsimp only
      split at h
      · cases h
      · exact h
    | some u' => exact h
def RetOk (K : PySem.W.Frag) (H0 : Hp) (Q : VK) : Out → Prop
  | .val d => ∀ v H, Same H0 H → DV K H v d → Q v H
  | .fresh ds => ∀ a xs H, Same H0 H → H0 a = none → H a = some (.lst xs) → DVs K H xs ds → noLs ds = true → Q (.ref a) H
  | .mine d => ∀ v H, Same H0 H → DV K (newL H0 H) v d → Q v H
def EndS (K : PySem.W.Frag) (E : XK) (H0 : Hp) (D : Ends) : Fl → Prop
  | .next δ => ∀ σ H S, Loc K H0 σ H δ S → D.nx σ H
  | .brk δ => ∀ σ H S, Loc K H0 σ H δ S → D.bk σ H
  | .cnt δ => ∀ σ H S, Loc K H0 σ H δ S → D.ct σ H
  | .ret o => RetOk K H0 D.rt o
  | .exc C => ∀ H, Same H0 H → E (.ref (ecx C)) none H
def RdS (K : PySem.W.Frag) (E : XK) (t : TS) (f : List Sl → Option Fl) : Prop :=
  ∀ (H0 : Hp) (σ : L2.St) (H : Hp) (δ : List Sl) (S : Addr → Bool) (D : Ends) (fl : Fl), Loc K H0 σ H δ S → f δ = some fl → EndS K E H0 D fl → t D σ H
def DS (X : Cx) (E : XK) (st : Stmt) (f : List Sl → Option Fl) : Prop := ∃ t, PS X st t ∧ RdS X.K E t f
def DSs (X : Cx) (E : XK) (st : List Stmt) (f : List Sl → Option Fl) : Prop := ∃ t, PSs X st t ∧ RdS X.K E t f
/-- a ground further up serves too -/
theorem RetOk.up {K : PySem.W.Frag} {H0 H1 : Hp} {Q : VK} {o : Out} (g : Same H0 H1) (h : RetOk K H0 Q o) : RetOk K H1 Q o := by
  cases o with
  | val d => exact fun v H s => h v H (g.trans s)
  | fresh ds => exact fun a xs H s n => h a xs H (g.trans s) (g.free n)
  | mine d => exact fun v H s dv => h v H (g.trans s) (DV.same (newL_mono g) dv)
/-! ### blocks -/
def fNext (δ : List Sl) : Option Fl := some (.next δ)
def fSeq (f g : List Sl → Option Fl) (δ : List Sl) : Option Fl :=
  match f δ with
  | some (.next δ') => g δ'
  | r => r
section
variable {X : Cx} {E : XK} {K : PySem.W.Frag}
def fBrk (δ : List Sl) : Option Fl := some (.brk δ)
def fCnt (δ : List Sl) : Option Fl := some (.cnt δ)
/-- an expression's end, then the statement's -/
def bS {α : Type} (m : M α) (k : α → Option Fl) : Option Fl :=
  match m with
  | some (.ok a) => k a
  | some (.err C) => some (.exc C)
  | none => none
/-! ### name = value -/
def slotOf (x : Rz) : Option Sl :=
  match x with
  | .dat d => some (.dat d)
  | .new ds => some (.own ds)
  | .use d => if noL d = true then some (.dat d) else none
  | .exc C => some (.exc C)
  | .var _ => none
theorem Loc.slot {H0 Hs H : Hp} {σ : L2.St} {δ : List Sl} {S : Addr → Bool} {v : V} {x : Rz} {s : Sl} {i : Nat} (L : Loc K H0 σ H δ S) (hs : ∀ (j : Nat) (ds : List PyData), δ[j]? = some (Sl.own ds) → ∃ a, σ[j]? = some (some (V.ref a)) ∧ Hs a ≠ none) (r : RV K Hs H S v x) (h : slotOf x = some s) :
    Loc K H0 (σ.set i (some v)) H (δ.set i s) S := by
  cases x with
  | dat d => cases h; exact L.put (fun _ z => nomatch z) (fun d' e => by cases e; exact ⟨v, rfl, r⟩) (fun _ z => nomatch z)
  | new ds =>
    cases h
    obtain ⟨a, xs, rfl, z, n, ha, hx⟩ := r
    refine L.putOwn z ha hx fun j es e c => ?_
    obtain ⟨b, e1, e2⟩ := hs j es e
    rw [c] at e1; cases e1
    exact e2 n
  | use d =>
    unfold slotOf at h
    dsimp only at h
    split at h
    · rename_i k
      cases h
      exact L.put (fun _ z => nomatch z) (fun d' e => by cases e; exact ⟨v, rfl, DV.ts L.tk r k⟩) (fun _ z => nomatch z)
    · cases h
  | var ds => cases h
  | exc C =>
    cases h
    obtain ⟨ea, rfl, z⟩ := r
    exact L.put (fun _ z => nomatch z) (fun _ z => nomatch z) (fun C' e => by cases e; exact ⟨ea, rfl, z⟩)
def fSet (i : Nat) (f : List Sl → M Rz) (δ : List Sl) : Option Fl := bS (f δ) fun x => match slotOf x with | some s => some (.next (δ.set i s)) | none => none
/-! ### targets -/
def RdG (K : PySem.W.Frag) (t : TG) (g : PyData → List Sl → Option (List Sl)) : Prop :=
  ∀ (H0 : Hp) (σ : L2.St) (H : Hp) (δ δ' : List Sl) (S : Addr → Bool) (v : V) (d : PyData) (Q : L2.St → Hp → Prop), Loc K H0 σ H δ S → DV K (hid H S) v d → g d δ = some δ' → (∀ σ', Loc K H0 σ' H δ' S → Q σ' H) → t v σ H Q
def DG (X : Cx) (tg : Expr) (g : PyData → List Sl → Option (List Sl)) : Prop := ∃ t, PG X tg t ∧ RdG X.K t g
def tName (i : Nat) (d : PyData) (δ : List Sl) : Option (List Sl) := some (δ.set i (.dat d))
def RdGs (K : PySem.W.Frag) (t : TGs) (g : List PyData → List Sl → Option (List Sl)) : Prop :=
  ∀ (H0 : Hp) (σ : L2.St) (H : Hp) (δ δ' : List Sl) (S : Addr → Bool) (vs : List V) (ds : List PyData) (Q : L2.St → Hp → Prop), Loc K H0 σ H δ S → DVs K (hid H S) vs ds → g ds δ = some δ' → (∀ σ', Loc K H0 σ' H δ' S → Q σ' H) → t vs σ H Q
def DGs (X : Cx) (tg : List Expr) (g : List PyData → List Sl → Option (List Sl)) : Prop := ∃ t, PGs X tg t ∧ RdGs X.K t g
def tsNil (ds : List PyData) (δ : List Sl) : Option (List Sl) := match ds with | [] => some δ | _ => none
def tsCons (g : PyData → List Sl → Option (List Sl)) (h : List PyData → List Sl → Option (List Sl)) (ds : List PyData) (δ : List Sl) : Option (List Sl) :=
  match ds with
  | d :: r => (match g d δ with | some δ' => h r δ' | none => none)
  | [] => none
def tTupT (g : List PyData → List Sl → Option (List Sl)) (k : Nat) (d : PyData) (δ : List Sl) : Option (List Sl) :=
  match d with
  | .tuple ds => if ds.length = k then g ds δ else none
  | _ => none
def fAsg (g : PyData → List Sl → Option (List Sl)) (f : List Sl → M Rz) (δ : List Sl) : Option Fl := bS (f δ) fun x => match datOf x with | some d => (match g d δ with | some δ' => some (.next δ') | none => none) | none => none
/-- a, b = x, y -/
def fPar (i j : Nat) (fa : List Sl → M (List Rz)) (δ : List Sl) : Option Fl := bS (fa δ) fun zs => match zs with | [x, y] => (match datOf x, datOf y with | some d, some e => some (.next ((δ.set i (.dat d)).set j (.dat e))) | _, _ => none) | _ => none
/-! ### return, raise, an expression alone -/
def outOf (x : Rz) : Option Out :=
  match x with
  | .dat d => some (.val d)
  | .use d => some (.val d)
  | .new ds => if noLs ds = true then some (.fresh ds) else none
  | .var ds => if noLs ds = true then some (.fresh ds) else none
  | .exc _ => none
def fRet (f : List Sl → M Rz) (δ : List Sl) : Option Fl := bS (f δ) fun x => match outOf x with | some o => some (.ret o) | none => none
def fRetN (_ : List Sl) : Option Fl := some (.ret (.val .none))
def fDrop (f : List Sl → M Rz) (δ : List Sl) : Option Fl := bS (f δ) fun _ => some (.next δ)
def fRaise (C : Ex) (fa : List Sl → M (List Rz)) (δ : List Sl) : Option Fl := bS (fa δ) fun zs => if zs.length ≤ sizeLine then some (.exc C) else none
theorem RVs.len {Hs H : Hp} {S : Addr → Bool} : ∀ {vs : List V} {zs : List Rz}, RVs K Hs H S vs zs → vs.length = zs.length
  | _, _, .nil => rfl
  | _, _, .cons _ t => by rw [List.length_cons, List.length_cons, RVs.len t]
def fIfS (c : List Sl → M Bool) (f g : List Sl → Option Fl) (δ : List Sl) : Option Fl := bS (c δ) fun b => if b = true then f δ else g δ
/-! ### while -/
def whN (c : List Sl → M Bool) (b : List Sl → Option Fl) : Nat → List Sl → Option Fl
  | 0, _ => none
  | n + 1, δ => bS (c δ) fun k => if k = true then (match b δ with | some (.next δ') => whN c b n δ' | some (.cnt δ') => whN c b n δ' | some (.brk δ') => some (.next δ') | r => r) else some (.next δ)
open Classical in
noncomputable def fWh (c : List Sl → M Bool) (b : List Sl → Option Fl) (δ : List Sl) : Option Fl := if h : ∃ n r, whN c b n δ = some r then whN c b (Classical.choose h) δ else none
end
end D3

set_option Elab.async false
set_option linter.all false
set_option maxRecDepth 100000
set_option maxHeartbeats 4000000
namespace D3
open PySem PySem.Spec PyProof.Rows L2 L3
variable [Ecx]
section
variable {X : Cx} {E : XK} {K : PySem.W.Frag}
/-! ### subscripts, unary minus -/
def negOf (x : Rz) : M Rz :=
  match x.d? with
  | some (.int i) => okM (.dat (.int (-i)))
  | _ => none
def fU (g : Rz → M Rz) (f : List Sl → M Rz) (δ : List Sl) : M Rz := bnd (f δ) g
/-! ### slices -/
def cutD (ds : List PyData) (lo hi : Option Int) : List PyData := (ds.drop (HT.sIx ds.length 0 lo)).take (HT.sIx ds.length ds.length hi - HT.sIx ds.length 0 lo)
def RdO (K : PySem.W.Frag) (E : XK) (t : TO) (f : List Sl → M (Option Int)) : Prop :=
  ∀ (H0 : Hp) (σ : L2.St) (H : Hp) (δ : List Sl) (S : Addr → Bool) (Q : Option Int → Hp → Prop) (r : Res (Option Int)), Loc K H0 σ H δ S → f δ = some r →
    (match r with | .ok z => ∀ H' S', Ext H S H' S' → Q z H' | .err C => ∀ H' S', Ext H S H' S' → E (.ref (ecx C)) none H') → t σ H Q
def DO (X : Cx) (E : XK) (e : Option Expr) (f : List Sl → M (Option Int)) : Prop := ∃ t, PO X e t ∧ RdO X.K E t f
def fNoP (_ : List Sl) : M (Option Int) := okM none
def partOf (x : Rz) : M (Option Int) :=
  match x.d? with
  | some (.int i) => okM (some i)
  | _ => none
def fPart (f : List Sl → M Rz) (δ : List Sl) : M (Option Int) := bnd (f δ) partOf
def SlD (K : PySem.W.Frag) (E : XK) (r : V → Option Int → Option Int → Hp → VK → Prop) (g : Rz → Option Int → Option Int → M Rz) : Prop :=
  ∀ (H0 : Hp) (σ : L2.St) (H : Hp) (δ : List Sl) (S : Addr → Bool) (Hs : Hp) (v : V) (x : Rz) (lo hi : Option Int) (z : Res Rz) (Q : VK), Loc K H0 σ H δ S → RV K Hs H S v x → g x lo hi = some z → EndE K E H S Q z → r v lo hi H Q
def fSl (g : Rz → Option Int → Option Int → M Rz) (f : List Sl → M Rz) (fl fh : List Sl → M (Option Int)) (δ : List Sl) : M Rz := bnd (f δ) fun x => bnd (fl δ) fun lo => bnd (fh δ) fun hi => g x lo hi
def gSlL (x : Rz) (lo hi : Option Int) : M Rz :=
  match x.d? with
  | some (.list ds) => if kept x ds = true then okM (.new (cutD ds lo hi)) else none
  | _ => none
/-! ### own defs -/
def EndF (K : PySem.W.Frag) (E : XK) (H : Hp) (Q : VK) : Res Out → Prop
  | .ok o => RetOk K H Q o
  | .err C => ∀ H', Same H H' → E (.ref (ecx C)) none H'
def spD (K : PySem.W.Frag) (n : Nat) (f : List PyData → M Out) : Sp := fun vs H Q E => ∃ ds o, vs.length = n ∧ DVs K H vs ds ∧ f ds = some o ∧ EndF K E H Q o
def dsOf : List Rz → Option (List PyData)
  | [] => some []
  | x :: xs => match x.d?, dsOf xs with
    | some d, some ds => some (d :: ds)
    | _, _ => none
def outZ : Out → Rz
  | .val d => if noL d = true then .dat d else .use d
  | .fresh ds => .new ds
  | .mine d => .dat d
def gF (n : Nat) (f : List PyData → M Out) (zs : List Rz) : M Rz :=
  match dsOf zs with
  | some ds => if ds.length = n then bnd (f ds) fun o => okM (outZ o) else none
  | none => none
/-! ### for -/
structure ItOk (K : PySem.W.Frag) (J : It) (Hh : Hp) (items : List PyData) : Prop where
  go : ∀ i H, Same Hh H → i < items.length → J.go i H
  yld : ∀ i H x H' d, Same Hh H → items[i]? = some d → J.yld i H x H' → H' = H ∧ DV K Hh x d
  stop : ∀ i H, Same Hh H → items.length ≤ i → J.stop i H
theorem ItOk.up {J : It} {Hh Hg : Hp} {items : List PyData} (I : ItOk K J Hh items) (g : Same Hh Hg) : ItOk K J Hg items :=
  ⟨fun i H s => I.go i H (g.trans s), fun i H x H' d s e y => let ⟨a, b⟩ := I.yld i H x H' d (g.trans s) e y; ⟨a, DV.same g b⟩, fun i H s => I.stop i H (g.trans s)⟩
def RdI (K : PySem.W.Frag) (E : XK) (wi : TI) (f : List Sl → M (List PyData)) : Prop :=
  ∀ (H0 : Hp) (σ : L2.St) (H : Hp) (δ : List Sl) (S : Addr → Bool) (R : It → Hp → Prop) (r : Res (List PyData)), Loc K H0 σ H δ S → f δ = some r →
    (match r with | .ok items => ∀ J H' S', Ext H S H' S' → ItOk K J (hid H' S') items → R J H' | .err C => ∀ H' S', Ext H S H' S' → E (.ref (ecx C)) none H') → wi σ H R
def DI (X : Cx) (E : XK) (tg iter : Expr) (f : List Sl → M (List PyData)) : Prop := ∃ wi, PI X tg iter wi ∧ RdI X.K E wi f
/-- a list that is walked: a plain one, or a new one that is held by nothing else -/
def itemsL (x : Rz) : M (List PyData) :=
  match x with
  | .dat (.list ds) => okM ds
  | .new ds => okM ds
  | _ => none
def itemsT (x : Rz) : M (List PyData) :=
  match x with
  | .dat (.tuple ds) => okM ds
  | .use (.tuple ds) => if noLs ds = true then okM ds else none
  | _ => none
def fI (g : Rz → M (List PyData)) (f : List Sl → M Rz) (δ : List Sl) : M (List PyData) := bnd (f δ) g
theorem Loc.del {H0 H : Hp} {σ : L2.St} {δ : List Sl} {S : Addr → Bool} {a : Addr} (L : Loc K H0 σ H δ S) (n : ∀ (j : Nat) (ds : List PyData), δ[j]? = some (Sl.own ds) → σ[j]? ≠ some (some (V.ref a))) : Loc K H0 σ H δ (del S a) := by
  refine ⟨L.old, fun b h => ?_, fun b h => ?_, L.len, fun j d e => ?_, fun j C e => ?_, fun j es e => ?_, L.one⟩
  · by_cases c : b = a
    · subst c; rw [del_same] at h; cases h
    · rw [del_ne c] at h; exact L.frs b h
  · by_cases c : b = a
    · subst c; rw [del_same] at h; cases h
    · rw [del_ne c] at h; exact L.lst b h
  · obtain ⟨v, e1, q⟩ := L.dat j d e
    exact ⟨v, e1, DV.same same_del q⟩
  · obtain ⟨v, e1, q⟩ := L.exc j C e
    exact ⟨v, e1, same_del _ _ q⟩
  · obtain ⟨b, ys, q1, q2, q3, q4⟩ := L.own j es e
    have : b ≠ a := by intro z; subst z; exact n j es e q1
    exact ⟨b, ys, q1, by rw [del_ne this]; exact q2, q3, DVs.same same_del q4⟩
theorem Ext.del {H H1 : Hp} {S S1 : Addr → Bool} {a : Addr} (g : Ext H S H1 S1) (n : S a = false) : Ext H S H1 (del S1 a) :=
  ⟨g.up, g.hd.trans same_del, fun b h => by
    have : b ≠ a := by intro z; subst z; rw [h] at n; cases n
    rw [del_ne this]; exact g.sub b h, fun b h => by
    by_cases c : b = a
    · subst c; rw [del_same] at h; cases h
    · rw [del_ne c] at h; exact g.new b h⟩
def rangeL (lo : Int) (n : Nat) : List PyData := (List.range n).map fun (i : Nat) => PyData.int (lo + i)
def rng1 (zs : List Rz) : M (List PyData) :=
  match dsOf zs with
  | some [.int j] => if -(2 ^ 62) ≤ j ∧ j < 2 ^ 62 then okM (rangeL 0 j.toNat) else none
  | _ => none
def rng2 (zs : List Rz) : M (List PyData) :=
  match dsOf zs with
  | some [.int i, .int j] => if -(2 ^ 62) ≤ i ∧ i < 2 ^ 62 ∧ -(2 ^ 62) ≤ j ∧ j < 2 ^ 62 then okM (rangeL i (j - i).toNat) else none
  | _ => none
def fR (g : List Rz → M (List PyData)) (f : List Sl → M (List Rz)) (δ : List Sl) : M (List PyData) := bnd (f δ) g
/-- the loop over known items -/
def forN (g : PyData → List Sl → Option (List Sl)) (b : List Sl → Option Fl) : List PyData → List Sl → Option Fl
  | [], δ => some (.next δ)
  | d :: r, δ => match g d δ with
    | none => none
    | some δ1 => (match b δ1 with
      | some (.next δ2) => forN g b r δ2
      | some (.cnt δ2) => forN g b r δ2
      | some (.brk δ2) => some (.next δ2)
      | x => x)
def fFor (fi : List Sl → M (List PyData)) (g : PyData → List Sl → Option (List Sl)) (b : List Sl → Option Fl) (δ : List Sl) : Option Fl := bS (fi δ) fun items => forN g b items δ
end
end D3

set_option Elab.async false
set_option linter.all false
set_option maxRecDepth 100000
set_option maxHeartbeats 4000000
namespace D3
open PySem PySem.Spec PyProof.Rows L2 L3
variable [Ecx]
section
variable {X : Cx} {E : XK} {K : PySem.W.Frag}
/-! ### a list of one's own that is changed no more from here on -/
def fFrz (i : Nat) (f : List Sl → Option Fl) (δ : List Sl) : Option Fl :=
  match δ[i]? with
  | some (.own ds) => f (δ.set i (.dat (.list ds)))
  | _ => f δ
/-! ### changes of a list of one's own -/
def fMut (k : Nat) (g : List PyData → Option Fl) (δ : List Sl) : Option Fl :=
  match δ[k]? with
  | some (.own ds) => g ds
  | _ => none
def fApp (k : Nat) (f : List Sl → M Rz) (δ : List Sl) : Option Fl := fMut k (fun ds => bS (f δ) fun x => match datOf x with
  | some d => if ds.length < sizeLine then some (.next (δ.set k (.own (ds ++ [d])))) else none
  | none => none) δ
def fPop (k : Nat) (δ : List Sl) : Option Fl := fMut k (fun ds => if ds = [] then none else some (.next (δ.set k (.own ds.dropLast)))) δ
def fRev (k : Nat) (δ : List Sl) : Option Fl := fMut k (fun ds => some (.next (δ.set k (.own ds.reverse)))) δ
/-- x[i] = e -/
def fPut (k : Nat) (f fi : List Sl → M Rz) (δ : List Sl) : Option Fl := bS (f δ) fun x => fMut k (fun ds => bS (fi δ) fun y => match datOf x, y.d? with
  | some d, some (.int i) => (match ixN ds.length i with | some j => some (.next (δ.set k (.own (ds.set j d)))) | none => none)
  | _, _ => none) δ
/-! ### isinstance -/
inductive Tg where
  | non | bl | int | str | lst | tup
  | exc (n : Ex)
  deriving DecidableEq
def tgD : PyData → Option Tg
  | .none => some .non
  | .bool _ => some .bl
  | .int _ => some .int
  | .str _ => some .str
  | .list _ => some .lst
  | .tuple _ => some .tup
  | .dict _ => none
def tgOf (x : Rz) : Option Tg :=
  match x with
  | .exc n => some (.exc n)
  | .dat d => tgD d
  | .use d => tgD d
  | .new _ => some .lst
  | .var _ => some .lst
def tgV : Tg → Value
  | .non => .type "NoneType"
  | .bl => .type "bool"
  | .int => .type "int"
  | .str => .type "str"
  | .lst => .type "list"
  | .tup => .type "tuple"
  | .exc n => .ref (ecx n)
def gIsi (ans : Tg → Option Bool) (x : Rz) : M Rz :=
  match tgOf x with
  | some tg => (match ans tg with | some b => okM (.dat (.bool b)) | none => none)
  | none => none
/-- what isinstance says of a class, by what is asked of -/
structure IsK (K : PySem.W.Frag) (cv : V) (ans : Tg → Option Bool) : Prop where
  cls : isCls cv = true
  kit : ∀ tg b, ans tg = some b → PySem.W.kitOne K (tgV tg) (vOf cv) = some b
  exc : ∀ n b, ans (.exc n) = some b → ExcK K (ecx n)
structure IsKs (K : PySem.W.Frag) (cs : List V) (ans : Tg → Option Bool) : Prop where
  cls : ∀ c ∈ cs, isCls c = true
  kit : ∀ tg b, ans tg = some b → PySem.W.kitAny K (tgV tg) (cs.map vOf) = some b
  exc : ∀ n b, ans (.exc n) = some b → ExcK K (ecx n)
def tCs : List V → TA
  | [] => tNil
  | c :: cs => tCons (tC c) (tCs cs)
/-! ### a def, by its body -/
def fnD (n m : Nat) (f : List Sl → Option Fl) (ds : List PyData) : M Out :=
  if ds.length = n then (match f (ds.map Sl.dat ++ List.replicate m Sl.no) with
    | some (.ret o) => some (.ok o)
    | some (.next _) => some (.ok (.val .none))
    | some (.exc C) => some (.err C)
    | _ => none) else none
end
end D3

set_option Elab.async false
set_option linter.all false
set_option maxRecDepth 100000
set_option maxHeartbeats 4000000
namespace D3
open PySem PySem.Spec PyProof.Rows L2 L3
variable [Ecx]
/-! ### the readings in one form -/
def tD (K : PySem.W.Frag) (E : XK) (f : List Sl → M Rz) : TE := fun σ H Q => ∃ H0 δ S r, Loc K H0 σ H δ S ∧ f δ = some r ∧ EndE K E H S Q r
def tDT (K : PySem.W.Frag) (E : XK) (f : List Sl → M Bool) : TT := fun σ H Q => ∃ H0 δ S r, Loc K H0 σ H δ S ∧ f δ = some r ∧ EndT E H S Q r
theorem DT.pt {X : Cx} {E : XK} {e : Expr} {f : List Sl → M Bool} (h : DT X E e f) : PT X e (tDT X.K E f) := by
  obtain ⟨t, a, b⟩ := h
  intro pins s σ H Q I q
  obtain ⟨H0, δ, S, r, L, e, q⟩ := q
  exact a pins s σ H Q I (b H0 σ H δ S Q r L e q)
def tDS (K : PySem.W.Frag) (E : XK) (f : List Sl → Option Fl) : TS := fun D σ H => ∃ H0 δ S r, Loc K H0 σ H δ S ∧ f δ = some r ∧ EndS K E H0 D r
theorem DSs.ps {X : Cx} {E : XK} {e : List Stmt} {f : List Sl → Option Fl} (h : DSs X E e f) : PSs X e (tDS X.K E f) := by
  obtain ⟨t, a, b⟩ := h
  intro pins s σ H D I q
  obtain ⟨H0, δ, S, r, L, e, q⟩ := q
  exact a pins s σ H D I (b H0 σ H δ S D r L e q)
/-! ### the names of a comprehension -/
def isFree (p : Str × NameKind) : Bool := match p.2 with | .free => true | _ => false
/-- what a look at the two name tables says -/
def compChk (N : List Str) (x : Str) (sc dsc : Scope) : Bool :=
  decide (sc.kind = .function) && decide (dsc.kind = .function) && sc.names.all (fun p => match p.2 with
    | .cell => false
    | .free => decide (dsc.names.lookup p.1 = some .cell)
    | .local => decide (sc.names.lookup p.1 = some .local)
    | _ => true) && decide (sc.names.lookup x = some .local) && !N.contains x &&
  N.all (fun y => match sc.names.lookup y with
    | some .local => false
    | some .cell => false
    | some .free => decide (dsc.names.lookup y = some .cell)
    | _ => true)
/-- what a comprehension walks: nothing is changed meanwhile -/
structure ItC (K : PySem.W.Frag) (J : It) (Hf Hh : Hp) (items : List PyData) : Prop where
  go : ∀ i H, Same Hf H → i < items.length → J.go i H
  yld : ∀ i H x H' d, Same Hf H → items[i]? = some d → J.yld i H x H' → H' = H ∧ DV K Hh x d
  stop : ∀ i H, Same Hf H → items.length ≤ i → J.stop i H
def RdIc (K : PySem.W.Frag) (E : XK) (wi : TI) (f : List Sl → M (List PyData)) : Prop :=
  ∀ (H0 : Hp) (σ : L2.St) (H : Hp) (δ : List Sl) (S : Addr → Bool) (R : It → Hp → Prop) (r : Res (List PyData)), Loc K H0 σ H δ S → f δ = some r →
    (match r with | .ok items => ∀ J H' S', Ext H S H' S' → ItC K J H' (hid H' S') items → R J H' | .err C => ∀ H' S', Ext H S H' S' → E (.ref (ecx C)) none H') → wi σ H R
def DIc (X : Cx) (E : XK) (tg iter : Expr) (f : List Sl → M (List PyData)) : Prop := ∃ wi, PI X tg iter wi ∧ RdIc X.K E wi f
theorem DI.c {X : Cx} {E : XK} {tg iter : Expr} {f : List Sl → M (List PyData)} (h : DI X E tg iter f) : DIc X E tg iter f := by
  obtain ⟨wi, a, b⟩ := h
  refine ⟨wi, a, fun H0 σ H δ S R r L e q => b H0 σ H δ S R r L e ?_⟩
  cases r with
  | ok items => exact fun J H' S' g it => q J H' S' g ⟨fun i H s => it.go i H (hid_up.trans s), fun i H x H1 d s e y => it.yld i H x H1 d (hid_up.trans s) e y, fun i H s => it.stop i H (hid_up.trans s)⟩
  | err C => exact q
def itemsV (x : Rz) : M (List PyData) :=
  match x with
  | .var ds => okM ds
  | _ => none
section
variable {X : Cx} {E : XK} {K : PySem.W.Frag}
theorem Loc.cons {H0 H : Hp} {σ : L2.St} {δ : List Sl} {S : Addr → Bool} {v : V} {d : PyData} (L : Loc K H0 σ H δ S) (h : DV K (hid H S) v d) : Loc K H0 (some v :: σ) H (.dat d :: δ) S := by
  refine ⟨L.old, L.frs, L.lst, by rw [List.length_cons, List.length_cons, L.len], fun i d' e => ?_, fun i C e => ?_, fun i es e => ?_, fun i j d1 d2 a e1 e2 e3 e4 => ?_⟩
  · cases i with
    | zero => cases e; exact ⟨v, rfl, h⟩
    | succ i => exact L.dat i d' (by simpa using e)
  · cases i with
    | zero => cases e
    | succ i => exact L.exc i C (by simpa using e)
  · cases i with
    | zero => cases e
    | succ i => exact L.own i es (by simpa using e)
  · cases i with
    | zero => cases e1
    | succ i =>
      cases j with
      | zero => cases e2
      | succ j => rw [L.one i j d1 d2 a (by simpa using e1) (by simpa using e2) (by simpa using e3) (by simpa using e4)]
/-- [elt for x in items if t] -/
def lcN (ft : List Sl → M Bool) (fe : List Sl → M Rz) (δ : List Sl) : List PyData → Option (List PyData)
  | [] => some []
  | d :: r => match ft (.dat d :: δ) with
    | some (.ok true) => (match fe (.dat d :: δ) with
      | some (.ok z) => (match datOf z, lcN ft fe δ r with
        | some e, some es => some (e :: es)
        | _, _ => none)
      | _ => none)
    | some (.ok false) => lcN ft fe δ r
    | _ => none
def fLC (fi : List Sl → M (List PyData)) (ft : List Sl → M Bool) (fe : List Sl → M Rz) (δ : List Sl) : M Rz := bnd (fi δ) fun items => if items.length < sizeLine then (match lcN ft fe δ items with | some ds => okM (.new ds) | none => none) else none
def DIfs (X : Cx) (ifs : List Expr) (f : List Sl → M Bool) : Prop := PIfs X ifs (tDT X.K E0 f)
def fTrue (_ : List Sl) : M Bool := okM true
end
end D3

set_option Elab.async false
set_option linter.all false
set_option maxRecDepth 100000
set_option maxHeartbeats 4000000
namespace D3
open PySem PySem.Spec PyProof.Rows L2 L3
variable [Ecx]
section
variable {X : Cx} {E : XK} {K : PySem.W.Frag}
/-! ### try: f(..) | x = f(..), except C as n: .. -/
/-- what may be caught -/
def CatchAll (K : PySem.W.Frag) (B : Addr) (cs : Ex → Bool) : Prop := ∀ n, cs n = true → CatchK K (ecx n) B
def afterH (j : Nat) (r : Option Fl) : Option Fl :=
  match r with
  | some (.next δ) => some (.next (δ.set j .no))
  | _ => none
def fTry (cs : Ex → Bool) (g : List Rz → M Rz) (fa : List Sl → M (List Rz)) (k : Rz → List Sl → Option (List Sl)) (j : Nat) (b : List Sl → Option Fl) (δ : List Sl) : Option Fl :=
  match fa δ with
  | some (.ok zs) => (match g zs with
    | some (.ok z) => (match k z δ with | some δ' => some (.next δ') | none => none)
    | some (.err C) => if cs C = true then afterH j (b (δ.set j (.exc C))) else none
    | none => none)
  | _ => none
def tTryA (K : PySem.W.Frag) (te : L2.St → Hp → VK → XK → Prop) (i : Nat) (B : Addr) (j : Nat) (ts : TS) : TS := fun D σ H =>
  te σ H (fun x H1 => D.nx (σ.set i (some x)) H1) fun C _ H' => ∃ c, C = .ref c ∧ CatchK K c B ∧
    ∀ ea, H' ea = none → ts { nx := fun σ' H2 => D.nx (σ'.set j none) H2, rt := fun _ _ => False } (σ.set j (some (.ref ea))) (upd H' ea (excO ea (.ref c)))
def kDrop (_ : Rz) (δ : List Sl) : Option (List Sl) := some δ
def kSet (i : Nat) (z : Rz) (δ : List Sl) : Option (List Sl) := match slotOf z with | some s => some (δ.set i s) | none => none
end
end D3

set_option Elab.async false
set_option linter.all false
set_option maxRecDepth 100000
set_option maxHeartbeats 4000000
namespace D3
open PySem PySem.Spec PyProof.Rows L2 L3
variable [Ecx]
/-- a constant of the module -/
structure HasC (K : PySem.W.Frag) (mg : Str → Option Value) (x : Str) (d : PyData) : Prop where
  ex : ∃ v u, mg x = some u ∧ RelV v u ∧ ∀ H, DV K H v d
/-- answers by a table -/
def ansL : List (Tg × Bool) → Tg → Option Bool
  | [], _ => none
  | (t, b) :: r, tg => if tg = t then some b else ansL r tg
end D3

set_option Elab.async false
set_option linter.all false
set_option maxRecDepth 100000
set_option maxHeartbeats 4000000
namespace D3
open PySem PySem.Spec PyProof.Rows L2 L3
variable [Ecx]
section
variable {X : Cx} {E : XK} {K : PySem.W.Frag}
/-! ### reversed(t), range(a, b, -1), x[::-1] -/
def itemsRevT (x : Rz) : M (List PyData) :=
  match x with
  | .dat (.tuple ds) => okM ds.reverse
  | .use (.tuple ds) => if noLs ds = true then okM ds.reverse else none
  | _ => none
def rangeD (lo : Int) (n : Nat) : List PyData := (List.range n).map fun (i : Nat) => PyData.int (lo - i)
def rng3 (zs : List Rz) : M (List PyData) :=
  match dsOf zs with
  | some [.int i, .int j, .int (-1)] => if -(2 ^ 62) ≤ i ∧ i < 2 ^ 62 ∧ -(2 ^ 62) ≤ j ∧ j < 2 ^ 62 then okM (rangeD i (i - j).toNat) else none
  | _ => none
def gRevL (x : Rz) : M Rz :=
  match x.d? with
  | some (.list ds) => if kept x ds = true then okM (.new ds.reverse) else none
  | _ => none
def gRevT (x : Rz) : M Rz :=
  match x.d? with
  | some (.tuple ds) => if kept x ds = true then okM (.dat (.tuple ds.reverse)) else none
  | _ => none
end
end D3

set_option Elab.async false
set_option linter.all false
set_option maxRecDepth 100000
set_option maxHeartbeats 4000000
namespace D3
open PySem PySem.Spec PyProof.Rows L2 L3
end D3

set_option Elab.async false
set_option linter.all false
set_option maxRecDepth 100000
set_option maxHeartbeats 4000000
namespace D3
open PySem PySem.Spec PyProof.Rows L2 L3
variable [Ecx]
section
variable {X : Cx} {E : XK}
end
end D3

set_option Elab.async false
set_option linter.all false
set_option maxRecDepth 100000
set_option maxHeartbeats 4000000
namespace D3
open PySem PySem.Spec PyProof.Rows L2 L3
variable [Ecx]
section
variable {X : Cx} {E : XK} {K : PySem.W.Frag}
def gSlT (x : Rz) (lo hi : Option Int) : M Rz :=
  match x.d? with
  | some (.tuple ds) => if kept x ds = true then okM (.dat (.tuple (cutD ds lo hi))) else none
  | _ => none
/-- [elt for x, y in items] -/
def lcN2 (fe : List Sl → M Rz) (δ : List Sl) : List PyData → Option (List PyData)
  | [] => some []
  | .tuple [d1, d2] :: r => (match fe (.dat d1 :: .dat d2 :: δ) with
      | some (.ok z) => (match datOf z, lcN2 fe δ r with
        | some e, some es => some (e :: es)
        | _, _ => none)
      | _ => none)
  | _ => none
def fLC2 (fi : List Sl → M (List PyData)) (fe : List Sl → M Rz) (δ : List Sl) : M Rz := bnd (fi δ) fun items => if items.length < sizeLine then (match lcN2 fe δ items with | some ds => okM (.new ds) | none => none) else none
def compChk2 (N : List Str) (x x2 : Str) (sc dsc : Scope) : Bool := compChk N x sc dsc && decide (sc.names.lookup x2 = some .local) && !N.contains x2 && decide (x ≠ x2)
end
end D3

set_option Elab.async false
set_option linter.all false
set_option maxRecDepth 100000
set_option maxHeartbeats 4000000
namespace D3
open PySem PySem.Spec PyProof.Rows L2 L3
variable [Ecx]
section
variable {X : Cx} {E : XK} {K : PySem.W.Frag}
/-! ### walked: one kind or the other -/
def orI (f g : List Sl → M (List PyData)) (δ : List Sl) : M (List PyData) :=
  match f δ with
  | some r => some r
  | none => g δ
/-! ### return (a, b, ..) with lists of one's own in it -/
def mineOf (x : Rz) : Option PyData :=
  match x with
  | .dat d => if noL d = true then some d else none
  | .use d => if noL d = true then some d else none
  | .new ds => if noLs ds = true then some (.list ds) else none
  | .var ds => if noLs ds = true then some (.list ds) else none
  | .exc _ => none
def minesOf : List Rz → Option (List PyData)
  | [] => some []
  | x :: xs => match mineOf x, minesOf xs with
    | some d, some ds => some (d :: ds)
    | _, _ => none
def fRetT (fa : List Sl → M (List Rz)) (δ : List Sl) : Option Fl := bS (fa δ) fun zs => match minesOf zs with
  | some ds => if ds.length ≤ sizeLine then some (.ret (.mine (.tuple ds))) else none
  | none => none
/-! ### list + list of any kind -/
def gCatS (x y : Rz) : M Rz :=
  match x.d?, y.d? with
  | some (.list ds), some (.list es) => if kept x ds = true ∧ kept y es = true ∧ ds.length + es.length ≤ sizeLine then okM (.new (ds ++ es)) else none
  | _, _ => none
/-! ### in, not in -/
def gIn (neg : Bool) (x y : Rz) : M Rz :=
  match x.d?, y.d? with
  | some d, some (.list ds) => if okD d = true ∧ okD (.list ds) = true then okM (.dat (.bool (if neg then !(ds.any fun y => PyData.eqv y d) else ds.any fun y => PyData.eqv y d))) else none
  | some d, some (.tuple ds) => if okD d = true ∧ okD (.list ds) = true then okM (.dat (.bool (if neg then !(ds.any fun y => PyData.eqv y d) else ds.any fun y => PyData.eqv y d))) else none
  | _, _ => none
/-! ### bits -/
def gShr (i j : Int) : Option PyData := if 0 ≤ j then some (.int (i / 2 ^ j.toNat)) else none
def gBand (i j : Int) : Option PyData := some (.int (Builtin.bitAnd i j))
end
end D3

set_option Elab.async false
set_option linter.all false
set_option maxRecDepth 100000
set_option maxHeartbeats 4000000
namespace D3
open PySem PySem.Spec PyProof.Rows L2 L3
variable [Ecx]
section
variable {X : Cx} {E : XK} {K : PySem.W.Frag}
def chkN (N N' : List Str) (x : Str) (sc : Scope) : Bool :=
  decide (N'.length = N.length) && decide N'.Nodup && !N'.contains x && (N.zip N').all fun p => decide (p.1 = p.2) || decide (sc.names.lookup p.2 = none)
end
end D3

set_option Elab.async false
set_option linter.all false
set_option maxRecDepth 100000
set_option maxHeartbeats 4000000
namespace D3
open PySem PySem.Spec PyProof.Rows L2 L3
section
variable {δ δ' : List Sl}
theorem ev_f2 {g : Rz → Rz → M Rz} {fa fb : List Sl → M Rz} {x y z : Rz} (h1 : fa δ = okM x) (h2 : fb δ = okM y) (h3 : g x y = okM z) : f2 g fa fb δ = okM z := by unfold f2; rw [h1, bnd_okM, h2, bnd_okM, h3]
theorem ev_fB {f : List Sl → M Rz} {x : Rz} {b : Bool} (h1 : f δ = okM x) (h2 : boolOf x = okM b) : fB f δ = okM b := by unfold fB; rw [h1, bnd_okM, h2]
theorem ev_fV {f : List Sl → M Bool} {b : Bool} (h1 : f δ = okM b) : fV f δ = okM (.dat (.bool b)) := by unfold fV; rw [h1, bnd_okM]
theorem ev_not {f : List Sl → M Bool} {b : Bool} (h1 : f δ = okM b) : fNot f δ = okM (!b) := by unfold fNot; rw [h1, bnd_okM]
theorem ev_fU {g : Rz → M Rz} {f : List Sl → M Rz} {x z : Rz} (h1 : f δ = okM x) (h2 : g x = okM z) : fU g f δ = okM z := by unfold fU; rw [h1, bnd_okM, h2]
theorem ev_cons {f : List Sl → M Rz} {g : List Sl → M (List Rz)} {x : Rz} {xs : List Rz} (h1 : f δ = okM x) (h2 : g δ = okM xs) : fCons f g δ = okM (x :: xs) := by unfold fCons; rw [h1, bnd_okM, h2, bnd_okM]
theorem ev_call {g : List Rz → M Rz} {fa : List Sl → M (List Rz)} {zs : List Rz} {z : Rz} (h1 : fa δ = okM zs) (h2 : g zs = okM z) : fCall g fa δ = okM z := by unfold fCall; rw [h1, bnd_okM, h2]
theorem ev_gF {n : Nat} {F : List PyData → M Out} {zs : List Rz} {ds : List PyData} {o : Out} {z : Rz} (h0 : dsOf zs = some ds) (h1 : ds.length = n) (h2 : F ds = okM o) (h3 : outZ o = z) : gF n F zs = okM z := by
  unfold gF; rw [h0]; dsimp only; rw [if_pos h1, h2, bnd_okM, h3]
/-! statements -/
theorem ev_seq {f g : List Sl → Option Fl} {r : Option Fl} (h1 : f δ = some (.next δ')) (h2 : g δ' = r) : fSeq f g δ = r := by unfold fSeq; rw [h1]; exact h2
theorem ev_set {i : Nat} {f : List Sl → M Rz} {x : Rz} {s : Sl} (h : f δ = okM x) (h2 : slotOf x = some s) (h3 : δ.set i s = δ') : fSet i f δ = some (.next δ') := by unfold fSet; rw [h]; show (match slotOf x with | some s => some (Fl.next (δ.set i s)) | none => none) = _; rw [h2]; dsimp only; rw [h3]
theorem ev_sset {i : Nat} {f : List Sl → M Rz} {g : List Sl → Option Fl} {x : Rz} {s : Sl} {r : Option Fl} (h : f δ = okM x) (h2 : slotOf x = some s) (h3 : δ.set i s = δ') (h4 : g δ' = r) : fSeq (fSet i f) g δ = r := ev_seq (ev_set h h2 h3) h4
end
/-! leaves -/
theorem atD_nat {ds : List PyData} {i : Int} {j : Nat} {d : PyData} (hi : i = (j : Int)) (h : ds[j]? = some d) : L2.atI ds i = some d := by subst hi; exact L2.atI_nat h
theorem ix_tup {ds : List PyData} {i : Int} {j : Nat} {d : PyData} (hi : i = (j : Int)) (h : ds[j]? = some d) : gIx (.dat (.tuple ds)) (.dat (.int i)) = okM (.dat d) := by
  unfold gIx seqOf Rz.d?; dsimp only; rw [atD_nat hi h]; rfl
theorem ix_t0 {p : PyData} {r : List PyData} : gIx (.dat (.tuple (p :: r))) (.dat (.int 0)) = okM (.dat p) := ix_tup (j := 0) rfl rfl
theorem ix_t1 {p q : PyData} {r : List PyData} : gIx (.dat (.tuple (p :: q :: r))) (.dat (.int 1)) = okM (.dat q) := ix_tup (j := 1) rfl rfl
theorem eqv_int (a b : Int) : PyData.eqv (.int a) (.int b) = decide (a = b) := by simp [PyData.eqv, Bool.beq_eq_decide_eq]
theorem gEq_int (a b : Int) : gEq false (.dat (.int a)) (.dat (.int b)) = okM (.dat (.bool (decide (a = b)))) := by
  have o : ∀ x : Int, okD (.int x) = true := fun _ => rfl
  simp only [gEq, Rz.d?, o, and_self, if_true, eqv_int]; rfl
theorem gNe_int (a b : Int) : gEq true (.dat (.int a)) (.dat (.int b)) = okM (.dat (.bool (!decide (a = b)))) := by
  have o : ∀ x : Int, okD (.int x) = true := fun _ => rfl
  simp only [gEq, Rz.d?, o, and_self, if_true, eqv_int]
theorem gMulI {i j : Int} (h : IntMulOk i j) : gI gMul (.dat (.int i)) (.dat (.int j)) = okM (.dat (.int (i * j))) := by unfold gI gMul Rz.d?; dsimp only; rw [if_pos h]
theorem gFdivI {i j : Int} (h : j ≠ 0) (h2 : j.natAbs < 2 ^ 9000) : gI gFdiv (.dat (.int i)) (.dat (.int j)) = okM (.dat (.int (i.fdiv j))) := by unfold gI gFdiv Rz.d?; dsimp only; rw [if_pos ⟨h, h2⟩]
theorem gModI {i j : Int} (h : j ≠ 0) : gI gMod (.dat (.int i)) (.dat (.int j)) = okM (.dat (.int (i.fmod j))) := by unfold gI gMod Rz.d?; dsimp only; rw [if_neg h]
theorem gModP {i j : Int} (h : 0 < j) : gI gMod (.dat (.int i)) (.dat (.int j)) = okM (.dat (.int (i % j))) := by
  rw [gModI (by omega), Int.fmod_eq_emod_of_nonneg _ (by omega)]
theorem gFdivP {i j : Int} (h : 0 < j) (h2 : j < 1073741824) : gI gFdiv (.dat (.int i)) (.dat (.int j)) = okM (.dat (.int (i / j))) := by
  rw [gFdivI (by omega) (Nat.lt_of_lt_of_le (m := 2 ^ 30) (by omega) (Nat.pow_le_pow_right (by decide) (by decide))), Int.fdiv_eq_ediv_of_nonneg _ (by omega)]
theorem gPowI {i j : Int} (h : CPow i j) : gI gPow (.dat (.int i)) (.dat (.int j)) = okM (.dat (.int (i ^ j.toNat))) := by unfold gI gPow Rz.d?; dsimp only; rw [if_pos h]
end D3

set_option Elab.async false
set_option linter.all false
set_option maxRecDepth 100000
set_option maxHeartbeats 4000000
namespace Law
open PySem PySem.Spec PyProof.Rows L2 L3 D3
/-! THE TEXT BY PLACES -/
def top (i : Nat) : Stmt := PySem.Challenge.pw_neverbelow_k17_signs_of_mixing.main.body.getD i (.Pass ⟨0, 0, 0, 0⟩)
abbrev s_greatest_divisor : Stmt := top 4
abbrev s_number : Stmt := top 5
abbrev s_common_bottom : Stmt := top 7
abbrev s_tops_over : Stmt := top 8
abbrev s_sign_of_whole : Stmt := top 9
abbrev s_one_sign : Stmt := top 10
abbrev s_between : Stmt := top 12
abbrev s_worth_at : Stmt := top 13
abbrev s_sign_of : Stmt := top 14
abbrev s__law_cell : Stmt := top 16
abbrev s__law_low : Stmt := top 17
abbrev s__law_plus : Stmt := top 18
abbrev s__law_times : Stmt := top 19
abbrev s__law_minus : Stmt := top 20
abbrev s__law_mix : Stmt := top 21
abbrev s__law_number : Stmt := top 22
abbrev s__law_sign : Stmt := top 25
abbrev s__law_drawn : Stmt := top 26
abbrev s__law_due : Stmt := top 27
abbrev s_law : Stmt := top 28
noncomputable def B__law_cell : List Sl → Option Fl := (fSeq (fIfS (fB (f2 (gI gLt) (fVar 1) (fCall (g1 lenOf) (fCons (fVar 0) fNil)))) (fRet (f2 (gI gMod) (f2 (gI gAdd) (f2 (gI gMul) (f2 gIx (fVar 0) (fVar 1)) (fC (.int 48271))) (f2 (gI gMul) (f2 (gI gMul) (fVar 1) (fVar 1)) (fC (.int 69621)))) (fC (.int 2147483647)))) fNext)
    (fRet (f2 (gI gMod) (f2 (gI gMul) (f2 (gI gAdd) (f2 (gI gAdd) (f2 (gI gMul) (f2 (gI gMul) (fVar 1) (fVar 1)) (fC (.int 69621))) (f2 (gI gMul) (fCall (g1 lenOf) (fCons (fVar 0) fNil)) (fC (.int 7919)))) (fC (.int 5))) (fC (.int 16807))) (fC (.int 2147483647)))))
noncomputable def F__law_cell : List PyData → M Out := fnD 2 0 B__law_cell
noncomputable def B__law_low : List Sl → Option Fl := (fSeq (fSet 2 (fCall (g1 absOf) (fCons (fVar 0) fNil)))
    (fSeq (fSet 3 (fVar 1))
    (fSeq (fWh (fB (f2 (gI gGt) (fVar 3) (fC (.int 0)))) (fSeq (fSet 4 (f2 (gI gMod) (fVar 2) (fVar 3)))
    (fSeq (fSet 2 (fVar 3))
    (fSet 3 (fVar 4)))))
    (fRet (fCall gTup (fCons (f2 (gI gFdiv) (fVar 0) (fVar 2)) (fCons (f2 (gI gFdiv) (fVar 1) (fVar 2)) fNil)))))))
noncomputable def F__law_low : List PyData → M Out := fnD 2 3 B__law_low
noncomputable def B__law_number : List Sl → Option Fl := (fSeq (fSet 1 (f2 gIx (fCall gLst (fCons (fC (.int 4)) (fCons (fC (.int 9)) (fCons (fC (.int 30)) (fCons (fC (.int 1000)) fNil))))) (f2 (gI gMod) (fVar 0) (fC (.int 4)))))
    (fRet (fCall (gF 2 F__law_low) (fCons (f2 (gI gSub) (f2 (gI gMod) (f2 (gI gFdiv) (fVar 0) (fC (.int 4))) (f2 (gI gAdd) (f2 (gI gMul) (fC (.int 2)) (fVar 1)) (fC (.int 1)))) (fVar 1)) (fCons (f2 (gI gAdd) (fC (.int 1)) (f2 (gI gMod) (f2 (gI gFdiv) (fVar 0) (fC (.int 8192))) (f2 gIx (fCall gLst (fCons (fC (.int 1)) (fCons (fC (.int 3)) (fCons (fC (.int 6)) (fCons (fC (.int 12)) fNil))))) (f2 (gI gMod) (f2 (gI gFdiv) (fVar 0) (fC (.int 65536))) (fC (.int 4)))))) fNil)))))
noncomputable def F__law_number : List PyData → M Out := fnD 1 1 B__law_number
noncomputable def B__law_drawn : List Sl → Option Fl := (fSeq (fSet 1 (fCall (gF 2 F__law_cell) (fCons (fVar 0) (fCons (fC (.int 0)) fNil))))
    (fSeq (fSet 2 (fLC (fR rng1 (fCons (f2 (gI gAdd) (fC (.int 1)) (f2 (gI gMod) (f2 (gI gFdiv) (fVar 1) (fC (.int 4))) (fC (.int 13)))) fNil)) fTrue (fCall (gF 1 F__law_number) (fCons (fCall (gF 2 F__law_cell) (fCons (fVar 1) (fCons (f2 (gI gAdd) (fC (.int 2)) (fVar 0)) fNil))) fNil))))
    (fSeq (fSet 3 (f2 (gI gMod) (fVar 1) (fC (.int 4))))
    (fSeq (fSet 4 (fCall (gF 2 F__law_cell) (fCons (fVar 0) (fCons (fC (.int 1)) fNil))))
    (fSeq (fIfS (fB (f2 (gI gGt) (fVar 3) (fC (.int 0)))) (fSeq (fSet 2 (fLC (fI itemsV (fVar 2)) fTrue (fCall gTup (fCons (f2 (gI gMul) (f2 (gI gMul) (fCall (g1 absOf) (fCons (f2 gIx (fVar 0) (fC (.int 0))) fNil)) (f2 (gI gSub) (fC (.int 3)) (f2 (gI gMul) (fC (.int 2)) (fVar 4)))) (fCall (g1 intOf) (fCons (f2 (gI gLt) (fVar 4) (fC (.int 3))) fNil))) (fCons (f2 gIx (fVar 0) (fC (.int 1))) fNil)))))
    (fSeq (fSet 2 (fLC (fI itemsV (fVar 2)) fTrue (fCall (gF 2 F__law_low) (fCons (f2 gIx (fVar 0) (fC (.int 0))) (fCons (f2 gIx (fVar 0) (fC (.int 1))) fNil)))))
    (fSet 2 (fLC (fR rng1 (fCons (fCall (g1 lenOf) (fCons (fVar 2) fNil)) fNil)) fTrue (f2 gIx (fCall gLst (fCons (fCall gTup (fCons (fC (.int 0)) (fCons (fC (.int 1)) fNil))) (fCons (f2 gIx (fVar 3) (fVar 0)) fNil))) (f2 (gI gBand) (f2 (gI gShr) (fVar 5) (fVar 0)) (fC (.int 1)))))))) fNext)
    (fSeq (fIfS (fAnd (fB (f2 (gEq false) (fVar 3) (fC (.int 3)))) (fB (f2 (gI gGt) (f2 (gI gMod) (fVar 4) (fC (.int 3))) (fC (.int 0))))) (fPut 2 (fCall (gF 2 F__law_low) (fCons (f2 (gI gSub) (f2 (gI gMul) (fC (.int 2)) (f2 (gI gMod) (fVar 4) (fC (.int 3)))) (fC (.int 3))) (fCons (f2 (gI gAdd) (fC (.int 1)) (f2 (gI gMod) (f2 (gI gFdiv) (fVar 4) (fC (.int 64))) (fC (.int 9)))) fNil))) (f2 (gI gMod) (f2 (gI gFdiv) (fVar 4) (fC (.int 3))) (fCall (g1 lenOf) (fCons (fVar 2) fNil)))) fNext)
    (fRet (fVar 2))))))))
noncomputable def F__law_drawn : List PyData → M Out := fnD 1 4 B__law_drawn
noncomputable def B__law_sign : List Sl → Option Fl := (fRet (f2 (gI gSub) (fCall (g1 intOf) (fCons (f2 (gI gGt) (f2 gIx (fVar 0) (fC (.int 0))) (fC (.int 0))) fNil)) (fCall (g1 intOf) (fCons (f2 (gI gLt) (f2 gIx (fVar 0) (fC (.int 0))) (fC (.int 0))) fNil))))
noncomputable def F__law_sign : List PyData → M Out := fnD 1 0 B__law_sign
noncomputable def B__law_due : List Sl → Option Fl := (fSeq (fSet 1 (fLC (orI (fI itemsT (fVar 0)) (fI itemsL (fVar 0))) fTrue (fCall (gF 1 F__law_sign) (fCons (fVar 0) fNil))))
    (fSeq (fIfS (fAnd (fB (f2 (gIn false) (fC (.int 1)) (fVar 1))) (fB (f2 (gIn true) (fU negOf (fC (.int 1))) (fVar 1)))) (fRet (fC (.int 1))) fNext)
    (fSeq (fIfS (fAnd (fB (f2 (gIn false) (fU negOf (fC (.int 1))) (fVar 1))) (fB (f2 (gIn true) (fC (.int 1)) (fVar 1)))) (fRet (fU negOf (fC (.int 1)))) fNext)
    (fRet (fC (.int 0))))))
noncomputable def F__law_due : List PyData → M Out := fnD 1 1 B__law_due
noncomputable def B_sign_of_whole : List Sl → Option Fl := (fSeq (fIfS (fB (f2 (gI gGt) (fVar 0) (fC (.int 0)))) (fRet (fC (.int 1))) fNext)
    (fSeq (fIfS (fB (f2 (gI gLt) (fVar 0) (fC (.int 0)))) (fRet (fU negOf (fC (.int 1)))) fNext)
    (fRet (fC (.int 0)))))
noncomputable def F_sign_of_whole : List PyData → M Out := fnD 1 0 B_sign_of_whole
noncomputable def B_one_sign : List Sl → Option Fl := (fSeq (fSet 1 (fLC (orI (fI itemsT (fVar 0)) (fI itemsL (fVar 0))) fTrue (fCall (gF 1 F_sign_of_whole) (fCons (fVar 0) fNil))))
    (fSeq (fIfS (fAnd (fB (f2 (gIn false) (fC (.int 1)) (fVar 1))) (fB (f2 (gIn true) (fU negOf (fC (.int 1))) (fVar 1)))) (fRet (fC (.int 1))) fNext)
    (fSeq (fIfS (fAnd (fB (f2 (gIn false) (fU negOf (fC (.int 1))) (fVar 1))) (fB (f2 (gIn true) (fC (.int 1)) (fVar 1)))) (fRet (fU negOf (fC (.int 1)))) fNext)
    (fRet (fC (.int 0))))))
noncomputable def F_one_sign : List PyData → M Out := fnD 1 1 B_one_sign
noncomputable def B_sign_of : List Sl → Option Fl := (fRet (fCall (gF 1 F_one_sign) (fCons (fLC (orI (fI itemsT (fVar 0)) (fI itemsL (fVar 0))) fTrue (f2 gIx (fVar 0) (fC (.int 0)))) fNil)))
noncomputable def F_sign_of : List PyData → M Out := fnD 1 0 B_sign_of
noncomputable def B_greatest_divisor : List Sl → Option Fl := (fSeq (fWh (fB (f2 (gEq true) (fVar 1) (fC (.int 0)))) (fSeq (fSet 2 (f2 (gI gMod) (fVar 0) (fVar 1)))
    (fSeq (fSet 0 (fVar 1))
    (fSet 1 (fVar 2)))))
    (fRet (fCall (g1 absOf) (fCons (fVar 0) fNil))))
noncomputable def F_greatest_divisor : List PyData → M Out := fnD 2 1 B_greatest_divisor
noncomputable def B_common_bottom : List Sl → Option Fl := (fSeq (fSet 1 (fC (.int 1)))
    (fSeq (fFor (orI (fI itemsT (fVar 0)) (fI itemsL (fVar 0))) (tName 2) (fSet 1 (f2 (gI gMul) (f2 (gI gFdiv) (fVar 1) (fCall (gF 2 F_greatest_divisor) (fCons (fVar 1) (fCons (f2 gIx (fVar 2) (fC (.int 1))) fNil)))) (f2 gIx (fVar 2) (fC (.int 1))))))
    (fRet (fVar 1))))
noncomputable def F_common_bottom : List PyData → M Out := fnD 1 2 B_common_bottom
noncomputable def B_tops_over : List Sl → Option Fl := (fRet (fLC (orI (fI itemsT (fVar 0)) (fI itemsL (fVar 0))) fTrue (f2 (gI gMul) (f2 gIx (fVar 0) (fC (.int 0))) (f2 (gI gFdiv) (fVar 2) (f2 gIx (fVar 0) (fC (.int 1)))))))
noncomputable def F_tops_over : List PyData → M Out := fnD 2 0 B_tops_over
noncomputable def B_number : List Sl → Option Fl := (fSeq (fIfS (fB (f2 (gEq false) (fVar 1) (fC (.int 0)))) (fRaise .NoNumber (fCons (fC (.str "a number has no bottom 0")) fNil)) fNext)
    (fSeq (fSet 2 (fCall (gF 2 F_greatest_divisor) (fCons (fVar 0) (fCons (fVar 1) fNil))))
    (fSeq (fIfS (fB (f2 (gI gLt) (fVar 1) (fC (.int 0)))) (fSet 2 (fU negOf (fVar 2))) fNext)
    (fRet (fCall gTup (fCons (f2 (gI gFdiv) (fVar 0) (fVar 2)) (fCons (f2 (gI gFdiv) (fVar 1) (fVar 2)) fNil)))))))
noncomputable def F_number : List PyData → M Out := fnD 2 1 B_number
noncomputable def B_between : List Sl → Option Fl := (fRet (fLC (fR rng1 (fCons (f2 (gI gSub) (fCall (g1 lenOf) (fCons (fVar 0) fNil)) (fC (.int 1))) fNil)) fTrue (f2 (gI gAdd) (f2 (gI gMul) (f2 (gI gSub) (f2 gIx (fVar 2) (fC (.int 1))) (f2 gIx (fVar 2) (fC (.int 0)))) (f2 gIx (fVar 1) (fVar 0))) (f2 (gI gMul) (f2 gIx (fVar 2) (fC (.int 0))) (f2 gIx (fVar 1) (f2 (gI gAdd) (fVar 0) (fC (.int 1))))))))
noncomputable def F_between : List PyData → M Out := fnD 2 0 B_between
noncomputable def B_worth_at : List Sl → Option Fl := (fSeq (fSet 2 (fCall (gF 1 F_common_bottom) (fCons (fVar 0) fNil)))
    (fSeq (fSet 3 (fCall (gF 2 F_tops_over) (fCons (fVar 0) (fCons (fVar 2) fNil))))
    (fSeq (fWh (fB (f2 (gI gGt) (fCall (g1 lenOf) (fCons (fVar 3) fNil)) (fC (.int 1)))) (fSeq (fSet 3 (fCall (gF 2 F_between) (fCons (fVar 3) (fCons (fVar 1) fNil))))
    (fSet 2 (f2 (gI gMul) (fVar 2) (f2 gIx (fVar 1) (fC (.int 1)))))))
    (fRet (fCall (gF 2 F_number) (fCons (f2 gIx (fVar 3) (fC (.int 0))) (fCons (fVar 2) fNil)))))))
noncomputable def F_worth_at : List PyData → M Out := fnD 2 2 B_worth_at
noncomputable def B__law_times : List Sl → Option Fl := (fRet (fCall (gF 2 F__law_low) (fCons (f2 (gI gMul) (f2 gIx (fVar 0) (fC (.int 0))) (f2 gIx (fVar 1) (fC (.int 0)))) (fCons (f2 (gI gMul) (f2 gIx (fVar 0) (fC (.int 1))) (f2 gIx (fVar 1) (fC (.int 1)))) fNil))))
noncomputable def F__law_times : List PyData → M Out := fnD 2 0 B__law_times
noncomputable def B__law_plus : List Sl → Option Fl := (fRet (fCall (gF 2 F__law_low) (fCons (f2 (gI gAdd) (f2 (gI gMul) (f2 gIx (fVar 0) (fC (.int 0))) (f2 gIx (fVar 1) (fC (.int 1)))) (f2 (gI gMul) (f2 gIx (fVar 1) (fC (.int 0))) (f2 gIx (fVar 0) (fC (.int 1))))) (fCons (f2 (gI gMul) (f2 gIx (fVar 0) (fC (.int 1))) (f2 gIx (fVar 1) (fC (.int 1)))) fNil))))
noncomputable def F__law_plus : List PyData → M Out := fnD 2 0 B__law_plus
noncomputable def B__law_minus : List Sl → Option Fl := (fRet (fCall (gF 2 F__law_low) (fCons (f2 (gI gSub) (f2 (gI gMul) (f2 gIx (fVar 0) (fC (.int 0))) (f2 gIx (fVar 1) (fC (.int 1)))) (f2 (gI gMul) (f2 gIx (fVar 1) (fC (.int 0))) (f2 gIx (fVar 0) (fC (.int 1))))) (fCons (f2 (gI gMul) (f2 gIx (fVar 0) (fC (.int 1))) (f2 gIx (fVar 1) (fC (.int 1)))) fNil))))
noncomputable def F__law_minus : List PyData → M Out := fnD 2 0 B__law_minus
noncomputable def B__law_mix : List Sl → Option Fl := (fSeq (fSet 2 (f2 (gI gSub) (fCall (g1 lenOf) (fCons (fVar 0) fNil)) (fC (.int 1))))
    (fSeq (fSet 3 (fCall gTup (fCons (fC (.int 0)) (fCons (fC (.int 1)) fNil))))
    (fSeq (fSet 4 (fC (.int 1)))
    (fSeq (fFor (fR rng1 (fCons (f2 (gI gAdd) (fVar 2) (fC (.int 1))) fNil)) (tName 5) (fSeq (fSet 6 (fCall (gF 2 F__law_times) (fCons (f2 gIx (fVar 0) (fVar 5)) (fCons (fCall gTup (fCons (fVar 4) (fCons (fC (.int 1)) fNil))) fNil))))
    (fSeq (fFor (fR rng1 (fCons (fVar 2) fNil)) (tName 7) (fIfS (fB (f2 (gI gLt) (fVar 7) (fVar 5))) (fSet 6 (fCall (gF 2 F__law_times) (fCons (fVar 6) (fCons (fVar 1) fNil)))) (fSet 6 (fCall (gF 2 F__law_times) (fCons (fVar 6) (fCons (fCall (gF 2 F__law_minus) (fCons (fCall gTup (fCons (fC (.int 1)) (fCons (fC (.int 1)) fNil))) (fCons (fVar 1) fNil))) fNil))))))
    (fSeq (fSet 3 (fCall (gF 2 F__law_plus) (fCons (fVar 3) (fCons (fVar 6) fNil))))
    (fSet 4 (f2 (gI gFdiv) (f2 (gI gMul) (fVar 4) (f2 (gI gSub) (fVar 2) (fVar 5))) (f2 (gI gAdd) (fVar 5) (fC (.int 1)))))))))
    (fRet (fVar 3))))))
noncomputable def F__law_mix : List PyData → M Out := fnD 2 6 B__law_mix
noncomputable def B_law : List Sl → Option Fl := (fSeq (fSet 1 (fCall (gF 1 F__law_drawn) (fCons (fVar 0) fNil)))
    (fSeq (fSet 2 (fCall (gF 1 F__law_due) (fCons (fVar 1) fNil)))
    (fSeq (fSet 3 (fCall (gF 1 F_sign_of) (fCons (fCall (g1 listOf) (fCons (fVar 1) fNil)) fNil)))
    (fSeq (fIfS (fOr (fNot (fB (fU (gIsi (ansL [(.non, false), (.bl, true), (.int, true), (.lst, false), (.tup, false)])) (fVar 3)))) (fOr (fB (fU (gIsi (ansL [(.non, false), (.bl, true), (.int, false), (.lst, false), (.tup, false)])) (fVar 3))) (fB (f2 (gEq true) (fVar 3) (fVar 2))))) (fRet (fC (.bool false))) fNext)
    (fSeq (fIfS (fOr (fB (f2 (gEq true) (fCall (gF 1 F_sign_of) (fCons (fU gRevL (fVar 1)) fNil)) (fVar 2))) (fB (f2 (gEq true) (fCall (gF 1 F_sign_of) (fCons (fLC (fI itemsV (fVar 1)) fTrue (fCall gTup (fCons (f2 (gI gSub) (fC (.int 0)) (f2 gIx (fVar 0) (fC (.int 0)))) (fCons (f2 gIx (fVar 0) (fC (.int 1))) fNil)))) fNil)) (f2 (gI gSub) (fC (.int 0)) (fVar 2))))) (fRet (fC (.bool false))) fNext)
    (fSeq (fIfS (fB (f2 (gEq false) (fVar 2) (fC (.int 0)))) (fRet (fC (.bool true))) fNext)
    (fSeq (fFor (fR rng1 (fCons (fC (.int 8)) fNil)) (tName 4) (fSeq (fSet 6 (f2 (gI gAdd) (fC (.int 2)) (f2 (gI gMod) (f2 (gI gFdiv) (fCall (gF 2 F__law_cell) (fCons (fVar 0) (fCons (f2 (gI gAdd) (fC (.int 20)) (fVar 4)) fNil))) (fC (.int 3))) (fC (.int 40)))))
    (fSeq (fSet 7 (fCall (gF 2 F__law_low) (fCons (f2 (gI gAdd) (fC (.int 1)) (f2 (gI gMod) (f2 (gI gFdiv) (fCall (gF 2 F__law_cell) (fCons (fVar 0) (fCons (f2 (gI gAdd) (fC (.int 20)) (fVar 4)) fNil))) (fC (.int 512))) (f2 (gI gSub) (fVar 6) (fC (.int 1))))) (fCons (fVar 6) fNil))))
    (fIfS (fOr (fB (f2 (gEq true) (fCall (gF 1 F__law_sign) (fCons (fCall (gF 2 F__law_mix) (fCons (fVar 1) (fCons (fVar 7) fNil))) fNil)) (fVar 2))) (fB (f2 (gEq true) (fCall (gF 1 F__law_sign) (fCons (fCall (gF 2 F_worth_at) (fCons (fVar 1) (fCons (fVar 7) fNil))) fNil)) (fVar 2)))) (fRet (fC (.bool false))) fNext))))
    (fSeq (fSet 5 (fCall gLst (fCons (fCall (gF 1 F__law_sign) (fCons (fCall (gF 2 F_worth_at) (fCons (fVar 1) (fCons (fCall gTup (fCons (fC (.int 0)) (fCons (fC (.int 1)) fNil))) fNil))) fNil)) (fCons (fCall (gF 1 F__law_sign) (fCons (fCall (gF 2 F_worth_at) (fCons (fVar 1) (fCons (fCall gTup (fCons (fC (.int 1)) (fCons (fC (.int 1)) fNil))) fNil))) fNil)) fNil))))
    (fRet (f2 (gEq false) (fVar 5) (fCall gLst (fCons (fCall (gF 1 F__law_sign) (fCons (f2 gIx (fVar 1) (fC (.int 0))) fNil)) (fCons (fCall (gF 1 F__law_sign) (fCons (f2 gIx (fVar 1) (fU negOf (fC (.int 1)))) fNil)) fNil)))))))))))))
noncomputable def F_law : List PyData → M Out := fnD 1 7 B_law
section
variable [Ecx]
structure Facts (K : PySem.W.Frag) (mg : Str → Option Value) : Prop where
  m_len : mg "len" = none
  m_abs : mg "abs" = none
  m_range : mg "range" = none
  m_int : mg "int" = none
  m_NoNumber : mg "NoNumber" = some (.ref (ecx .NoNumber))
  q_NoNumber : PySem.W.excIn K (ecx .NoNumber) [.type "ValueError", .type "Exception", .type "BaseException", .type "object"] "ValueError.__new__" = true
  m_list : mg "list" = none
  m_isinstance : mg "isinstance" = none
  ik_int : IsK K (.ty "int") (ansL [(.non, false), (.bl, true), (.int, true), (.lst, false), (.tup, false)])
  m_bool : mg "bool" = none
  ik_bool : IsK K (.ty "bool") (ansL [(.non, false), (.bl, true), (.int, false), (.lst, false), (.tup, false)])
variable {P : Program} {w : World} {K : PySem.W.Frag} {mg : Str → Option Value} {base : Heap} {f : Addr} {fd : FuncData}
end
end Law

set_option Elab.async false
set_option linter.all false
set_option maxRecDepth 100000
set_option maxHeartbeats 1000000
set_option exponentiation.threshold 20000
namespace Law
open PySem L2 L3 D3
local macro_rules | `(tactic| walk_at "ev") => `(tactic| first
  | assumption
  | with_reducible refine ev_f2 ?_ ?_ ?_ <;> walk_at "ev"
  | with_reducible refine ev_fB ?_ ?_ <;> walk_at "ev"
  | with_reducible refine ev_fV ?_ <;> walk_at "ev"
  | with_reducible refine ev_not ?_ <;> walk_at "ev"
  | with_reducible refine ev_fU ?_ ?_ <;> walk_at "ev"
  | with_reducible refine ev_cons ?_ ?_ <;> walk_at "ev"
  | with_reducible refine ev_call ?_ ?_ <;> walk_at "ev"
  | with_reducible exact gEq_int _ _
  | with_reducible exact gNe_int _ _
  | with_reducible exact ix_t0
  | with_reducible exact ix_t1
  | with_reducible refine gMulI ?_ <;> walk_at "sd"
  | with_reducible refine gModP ?_ <;> walk_at "sd"
  | with_reducible refine gFdivP ?_ ?_ <;> walk_at "sd"
  | with_reducible refine gPowI ?_ <;> exact ⟨by decide, by decide, by decide⟩
  | with_reducible refine ev_gF rfl rfl ?_ rfl <;> walk_at "fn"
  | with_reducible rfl
  | rfl)
local macro_rules | `(tactic| walk_at "sd") => `(tactic| first | assumption | omega | decide)
local macro_rules | `(tactic| walk_at "fn") => `(tactic| assumption)
local macro_rules | `(tactic| walk_at "ss") => `(tactic| (simp only [List.set_cons_succ, List.set_cons_zero] <;> rfl))
/-! statements, one after another, as far as no test is open -/
local macro_rules | `(tactic| walk_at "st") => `(tactic| first
  | with_reducible refine ev_sset ?_ rfl ?_ ?_; rotate_left 1; (walk_at "ss"); rotate_left 1)
/-! curves as lists of fractions -/
def cD (l : List Rat) : PyData := .tuple (l.map nD)
def lD (l : List Rat) : PyData := .list (l.map nD)
/-! worths -/
def ev : List Rat → Rat → Rat
  | [], _ => 0
  | a :: l, x => a + x * ev l x
/-! noughts at the end left out -/
def trim (l : List Rat) : List Rat := (l.reverse.dropWhile (· == 0)).reverse
theorem trim_snoc0 (l : List Rat) : trim (l ++ [0]) = trim l := by unfold trim; simp
theorem trim_snoc {l : List Rat} {a : Rat} (h : a ≠ 0) : trim (l ++ [a]) = l ++ [a] := by
  unfold trim
  simp [h]
theorem rev_ind {P : List Rat → Prop} (h0 : P []) (h1 : ∀ l a, P l → P (l ++ [a])) (l : List Rat) : P l := by
  have : ∀ r : List Rat, P r.reverse := fun r => by
    induction r with
    | nil => exact h0
    | cons a r ih => rw [List.reverse_cons]; exact h1 _ a ih
  have := this l.reverse
  rwa [List.reverse_reverse] at this
theorem trim_last (l : List Rat) : trim l = [] ∨ ∃ m a, trim l = m ++ [a] ∧ a ≠ 0 := by
  refine rev_ind (P := fun l => trim l = [] ∨ ∃ m a, trim l = m ++ [a] ∧ a ≠ 0) (.inl rfl) (fun l a ih => ?_) l
  · by_cases h : a = 0
    · subst h; rw [trim_snoc0]; exact ih
    · exact .inr ⟨l, a, trim_snoc h, h⟩
/-! one way of Horner's scheme, and the way from place k on -/
def hs (c : Rat) : List Rat → List Rat
  | [] => []
  | a :: t => (a - c * (hs c t).headD 0) :: hs c t
def hsp (c : Rat) (k : Nat) (l : List Rat) : List Rat := l.take k ++ hs c (l.drop k)
def mvs (c : Rat) (l : List Rat) : Nat → List Rat
  | 0 => l
  | d + 1 => hsp c d (mvs c l d)
/-! sizes over one bottom -/
def Gz (D : Int) (n : Nat) (q : Rat) : Prop := ∃ t : Int, q * (D : Rat) = (t : Rat) ∧ t.natAbs < 2 ^ n
theorem Gz.step {D Q u : Int} {n : Nat} {c p q : Rat} (hc : c * (Q : Rat) = (u : Rat)) (hb : Q.natAbs + u.natAbs ≤ 64) (hp : Gz D n p) (hq : Gz D n q) : Gz (D * Q) (n + 6) (p - c * q) := by
  obtain ⟨t, e1, b1⟩ := hp
  obtain ⟨s, e2, b2⟩ := hq
  refine ⟨t * Q - u * s, ?_, ?_⟩
  · rw [Rat.intCast_mul, Rat.intCast_sub, Rat.intCast_mul, Rat.intCast_mul]; grind
  · have h1 : (t * Q - u * s).natAbs ≤ t.natAbs * Q.natAbs + u.natAbs * s.natAbs := by
      have := Int.natAbs_sub_le (t * Q) (u * s)
      rwa [Int.natAbs_mul, Int.natAbs_mul] at this
    have h2 : t.natAbs * Q.natAbs ≤ (2 ^ n - 1) * Q.natAbs := Nat.mul_le_mul_right _ (by omega)
    have h3 : u.natAbs * s.natAbs ≤ u.natAbs * (2 ^ n - 1) := Nat.mul_le_mul_left _ (by omega)
    rw [Nat.mul_comm u.natAbs (2 ^ n - 1)] at h3
    have h4 : (2 ^ n - 1) * Q.natAbs + (2 ^ n - 1) * u.natAbs ≤ (2 ^ n - 1) * 64 := by rw [← Nat.mul_add]; exact Nat.mul_le_mul_left _ hb
    have h5 : 2 ^ (n + 6) = 2 ^ n * 64 := by rw [Nat.pow_add]
    have h6 : 0 < 2 ^ n := Nat.pow_pos (by decide)
    omega
theorem Gz.zero (D : Int) (n : Nat) : Gz D n 0 := ⟨0, by rw [Rat.zero_mul]; rfl, Nat.pow_pos (by decide)⟩
theorem Gz.sz {D : Int} {n : Nat} {q : Rat} (h : Gz D n q) (h0 : D ≠ 0) (hD : D.natAbs < 2 ^ n) : NB.Sz n q := by
  obtain ⟨t, e, b⟩ := h
  have : q = Rat.divInt t D := by
    rw [Rat.divInt_eq_div, ← e]
    have : (D : Rat) ≠ 0 := by exact_mod_cast h0
    grind
  rw [this]
  exact NB.Sz.divInt h0 b hD
theorem Gz.mono {D : Int} {m n : Nat} {q : Rat} (h : Gz D m q) (hmn : m ≤ n) : Gz D n q := by
  obtain ⟨t, e, b⟩ := h
  exact ⟨t, e, Nat.lt_of_lt_of_le b (Nat.pow_le_pow_right (by decide) hmn)⟩
/-! stretching -/
def st (k : Rat) : Rat → List Rat → List Rat
  | _, [] => []
  | p, a :: t => a / p :: st k (p * k) t
/-! sizes: over one bottom, tops and bottoms by themselves -/
def Wz (q : Rat) : Prop := q.num.natAbs < 2 ^ 20000 ∧ q.den < 2 ^ 4000
theorem Gz.eq {D : Int} {n : Nat} {q : Rat} (h : Gz D n q) (h0 : D ≠ 0) : ∃ t : Int, q = Rat.divInt t D ∧ t.natAbs < 2 ^ n := by
  obtain ⟨t, e, b⟩ := h
  refine ⟨t, ?_, b⟩
  rw [Rat.divInt_eq_div, ← e]
  have : (D : Rat) ≠ 0 := by exact_mod_cast h0
  grind
theorem Gz.mul {D E : Int} {a b : Nat} {p q : Rat} (hp : Gz D a p) (hq : Gz E b q) : Gz (D * E) (a + b) (p * q) := by
  obtain ⟨t, e1, b1⟩ := hp
  obtain ⟨s, e2, b2⟩ := hq
  refine ⟨t * s, ?_, ?_⟩
  · rw [Rat.intCast_mul, Rat.intCast_mul, ← e1, ← e2]; grind
  · rw [Int.natAbs_mul]; exact NB.mul_lt b1 b2
theorem Gz.up {D E : Int} {a e : Nat} {p : Rat} (hp : Gz D a p) (hE : E.natAbs < 2 ^ e) : Gz (D * E) (a + e) p := by
  have := hp.mul (E := E) (b := e) (q := 1) ⟨E, by rw [Rat.one_mul], hE⟩
  rwa [Rat.mul_one] at this
theorem Gz.add {D : Int} {a : Nat} {p q : Rat} (hp : Gz D a p) (hq : Gz D a q) : Gz D (a + 1) (p + q) := by
  obtain ⟨t, e1, b1⟩ := hp
  obtain ⟨s, e2, b2⟩ := hq
  refine ⟨t + s, ?_, ?_⟩
  · rw [Rat.intCast_add, ← e1, ← e2]; grind
  · have := Int.natAbs_add_le t s
    have h2 := NB.two_pow a
    omega
theorem Gz.neg {D : Int} {a : Nat} {p : Rat} (hp : Gz D a p) : Gz D a (-p) := by
  obtain ⟨t, e1, b1⟩ := hp
  exact ⟨-t, by rw [Rat.intCast_neg, ← e1]; grind, by rw [Int.natAbs_neg]; exact b1⟩
theorem Gz.sub {D : Int} {a : Nat} {p q : Rat} (hp : Gz D a p) (hq : Gz D a q) : Gz D (a + 1) (p - q) := by
  rw [Rat.sub_eq_add_neg]; exact hp.add hq.neg
theorem Gz.int {i : Int} {a : Nat} (h : i.natAbs < 2 ^ a) : Gz 1 a (i : Rat) := ⟨i, by have : ((1 : Int) : Rat) = 1 := rfl; rw [this, Rat.mul_one], h⟩
theorem Wz.m {p q : Rat} (hp : Wz p) (hq : Wz q) : IntMulOk p.num (q.den : Int) ∧ IntMulOk q.num (p.den : Int) ∧ IntMulOk (p.den : Int) (q.den : Int) ∧ IntMulOk p.num q.num ∧ ((p.den : Int) * (q.den : Int)).natAbs < 2 ^ 9000 ∧ 0 < (p.den : Int) * (q.den : Int) := by
  have dp : ((p.den : Nat) : Int).natAbs < 2 ^ 4000 := by rw [Int.natAbs_natCast]; exact hp.2
  have dq : ((q.den : Nat) : Int).natAbs < 2 ^ 4000 := by rw [Int.natAbs_natCast]; exact hq.2
  refine ⟨mulOk hp.1 dq (by decide), mulOk hq.1 dp (by decide), mulOk dp dq (by decide), mulOk hp.1 hq.1 (by decide), ?_, ?_⟩
  · rw [Int.natAbs_mul]
    exact Nat.lt_of_lt_of_le (NB.mul_lt (m := 4000) (n := 4000) dp dq) (Nat.pow_le_pow_right (by decide) (by decide))
  · have h1 := p.den_pos
    have h2 := q.den_pos
    exact Int.mul_pos (by omega) (by omega)
/-! ways to choose -/
def ch : Nat → Nat → Nat
  | _, 0 => 1
  | 0, _ + 1 => 0
  | n + 1, k + 1 => ch n k + ch n (k + 1)
def fac : Nat → Nat
  | 0 => 1
  | n + 1 => fac n * (n + 1)
/-! numbers mixed -/
def mx (u v : Rat) : Nat → (Nat → Rat) → Rat
  | 0, f => f 0
  | n + 1, f => u * mx u v n f + v * mx u v n (fun k => f (k + 1))
/-- the sum by ways -/
def tm (u v : Rat) (n : Nat) (f : Nat → Rat) (k : Nat) : Rat := f k * (ch n k : Rat) * v ^ k * u ^ (n - k)
def sm (u v : Rat) (n : Nat) (f : Nat → Rat) : Nat → Rat
  | 0 => 0
  | k + 1 => sm u v n f k + tm u v n f k
/-! differences -/
def dd (c : Nat → Rat) : Nat → Nat → Rat
  | k, 0 => c k
  | k, j + 1 => dd c k j + dd c (k + 1) j
/-! lists of whole numbers, as fractions -/
def Zi (q : Rat) : Prop := q = ((q.num : Int) : Rat)
theorem Zi.of (i : Int) : Zi (i : Rat) := rfl
theorem Zi.gz {a : Nat} {q : Rat} (h : Zi q) (hb : q.num.natAbs < 2 ^ a) : Gz 1 a q := by
  have := Gz.int hb
  rwa [← h] at this
theorem Zi.add {p q : Rat} (hp : Zi p) (hq : Zi q) : Zi (p + q) ∧ (p + q).num = p.num + q.num := by
  have e : p + q = ((p.num + q.num : Int) : Rat) := by rw [Rat.intCast_add, ← hp, ← hq]
  rw [e]; exact ⟨rfl, rfl⟩
theorem Zi.mul {p q : Rat} (hp : Zi p) (hq : Zi q) : Zi (p * q) ∧ (p * q).num = p.num * q.num := by
  have e : p * q = ((p.num * q.num : Int) : Rat) := by rw [Rat.intCast_mul, ← hp, ← hq]
  rw [e]; exact ⟨rfl, rfl⟩
theorem Zi.sub {p q : Rat} (hp : Zi p) (hq : Zi q) : Zi (p - q) ∧ (p - q).num = p.num - q.num := by
  have e : p - q = ((p.num - q.num : Int) : Rat) := by rw [Rat.intCast_sub, ← hp, ← hq]
  rw [e]; exact ⟨rfl, rfl⟩
def zD (l : List Rat) : List PyData := l.map fun q => .int q.num
/-! a list by its function -/
def rl (m : Nat) (g : Nat → Rat) : List Rat := (List.range m).map g
/-! each number times a power of B, the more the nearer to the front -/
def u1 (B : Rat) : List Rat → List Rat
  | [] => []
  | a :: t => a * B ^ t.length :: u1 B t
def usp (B : Rat) (k : Nat) (l : List Rat) : List Rat := l.take k ++ u1 B (l.drop k)
/-! each number times a power of w, the more the farther behind -/
def u3 (w : Rat) : Rat → List Rat → List Rat
  | _, [] => []
  | p, a :: t => a * p :: u3 w (p * w) t
/-! sizes -/
/-! one bottom for all -/
def cbA (a : Nat) (l : List Rat) : Nat := l.foldl (fun a q => Nat.lcm a q.den) a
def cbN (l : List Rat) : Nat := cbA 1 l
def tp (B : Nat) (q : Rat) : Int := q.num * ((B / q.den : Nat) : Int)
/-! the way of halving, row by row -/
def dc (u v : Rat) (f : Nat → Rat) : Nat → Nat → Rat
  | 0, k => f k
  | j + 1, k => u * dc u v f j k + v * dc u v f j (k + 1)
/-! signs -/
def sgI (i : Int) : Int := if 0 < i then 1 else if i < 0 then -1 else 0
def sgl (l : List Int) : Int :=
  if (l.any fun i => decide (0 < i)) = true ∧ (l.any fun i => decide (i < 0)) = false then 1 else if (l.any fun i => decide (i < 0)) = true ∧ (l.any fun i => decide (0 < i)) = false then -1 else 0
def scr (ns : List Int) : PyData := .list (ns.map PyData.int)
def cellF (ns : List Int) (k : Int) : Int :=
  if k < (ns.length : Int) then (ns.getD k.toNat 0 * 48271 + k * k * 69621) % 2147483647 else (k * k * 69621 + (ns.length : Int) * 7919 + 5) * 16807 % 2147483647
/-- a small fraction, over the one bottom -/
theorem sm_gz {t b : Int} (ht : t.natAbs ≤ 1002) (h0 : 1 ≤ b) (h1 : b ≤ 12) : Gz 27720 25 (Rat.divInt t b) := by
  have hb : (b : Rat) ≠ 0 := by
    have : b ≠ 0 := by omega
    exact_mod_cast this
  have key : ∀ m : Int, m * b = 27720 → m.natAbs ≤ 27720 → Gz 27720 25 (Rat.divInt t b) := fun m hm hs => by
    refine ⟨t * m, ?_, ?_⟩
    · rw [← hm, Rat.divInt_eq_div, Rat.intCast_mul, Rat.intCast_mul]; grind
    · rw [Int.natAbs_mul]
      have : t.natAbs * m.natAbs ≤ 1002 * 27720 := Nat.mul_le_mul ht hs
      omega
  have : b = 1 ∨ b = 2 ∨ b = 3 ∨ b = 4 ∨ b = 5 ∨ b = 6 ∨ b = 7 ∨ b = 8 ∨ b = 9 ∨ b = 10 ∨ b = 11 ∨ b = 12 := by omega
  rcases this with e | e | e | e | e | e | e | e | e | e | e | e
  · exact key 27720 (by rw [e]; decide) (by decide)
  · exact key 13860 (by rw [e]; decide) (by decide)
  · exact key 9240 (by rw [e]; decide) (by decide)
  · exact key 6930 (by rw [e]; decide) (by decide)
  · exact key 5544 (by rw [e]; decide) (by decide)
  · exact key 4620 (by rw [e]; decide) (by decide)
  · exact key 3960 (by rw [e]; decide) (by decide)
  · exact key 3465 (by rw [e]; decide) (by decide)
  · exact key 3080 (by rw [e]; decide) (by decide)
  · exact key 2772 (by rw [e]; decide) (by decide)
  · exact key 2520 (by rw [e]; decide) (by decide)
  · exact key 2310 (by rw [e]; decide) (by decide)
theorem tt (l : List Rat) : trim (trim l) = trim l := by
  rcases trim_last l with z | ⟨m, a, e, ha⟩
  · rw [z]; rfl
  · rw [e, trim_snoc ha]
/-- a curve or a list of numbers -/
def SeqD (x : PyData) (l : List Rat) : Prop := x = cD l ∨ x = lD l
/-- the tops of the way, row j, over the bottom -/
def dcT (B : Nat) (t : Rat) (f : Nat → Rat) (j : Nat) (k : Nat) : Rat := (B : Rat) * (t.den : Rat) ^ j * dc (1 - t) t f j k
def Ns (q : Rat) : Prop := q.num.natAbs ≤ 1002 ∧ q.den ≤ 12
theorem Ns.gz {q : Rat} (h : Ns q) : Gz 27720 25 q := by
  have h2 := q.den_pos
  have := sm_gz (t := q.num) (b := (q.den : Int)) h.1 (by omega) (by have := h.2; omega)
  rwa [Rat.num_divInt_den] at this
theorem dv_small (t b : Int) (hb : 0 < b) : (Rat.divInt t b).num.natAbs ≤ t.natAbs ∧ ((Rat.divInt t b).den : Int) ≤ b := by
  refine ⟨?_, ?_⟩
  · rw [Rat.num_divInt, Int.sign_eq_one_of_pos hb, Int.one_mul]
    exact NB.natAbs_ediv_le _ _
  · rw [Rat.den_divInt, if_neg (by omega)]
    have := Nat.div_le_self b.natAbs (b.gcd t)
    omega
theorem Ns.of {t b : Int} (ht : t.natAbs ≤ 1002) (h0 : 1 ≤ b) (h1 : b ≤ 12) : Ns (Rat.divInt t b) := by
  have h := dv_small t b (by omega)
  exact ⟨by omega, by omega⟩
theorem Ns.zero : Ns 0 := ⟨by decide, by decide⟩
end Law

set_option Elab.async false
set_option linter.all false
namespace Law
open PySem PySem.Spec PyProof.Rows L2 L3 D3
structure Raw [Ecx] (K : PySem.W.Frag) : Prop where
  n_NoNumber : PySem.W.nsIn K mainGlobals "NoNumber" = some (some (.ref (ecx .NoNumber)))
  q_NoNumber : PySem.W.excIn K (ecx .NoNumber) [.type "ValueError", .type "Exception", .type "BaseException", .type "object"] "ValueError.__new__" = true
  ik_int : IsK K (.ty "int") (ansL [(.non, false), (.bl, true), (.int, true), (.lst, false), (.tup, false)])
  ik_bool : IsK K (.ty "bool") (ansL [(.non, false), (.bl, true), (.int, false), (.lst, false), (.tup, false)])
end Law
open PySem PySem.W PyProof.Rows L2 L3 D3 Law