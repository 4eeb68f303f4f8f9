import PyProof.Rows.All
import Wide.All
import OpenK.AllK
import Wide.FinOn
import Lean
import PyProof.EqAt
import PyProof.EqKinds
import PyProof.TupleCall
import PySem.Challenge.RW_neverbelow_k57_curves_read
set_option Elab.async false
set_option linter.all false
set_option maxRecDepth 100000
/-! THE HAND LAYER, for ints, bools, texts, own classes, LISTS and tuples (index, slices, in, append, pop ..), calls, loops. Paste it whole ahead of your own text; what your proof does not reach may be deleted. -/
namespace L2
open PySem PySem.Spec PyProof.Rows

/-- a key: an int or a str -/
abbrev Key := Sum Int Str
def keyIs : Key → Value → Bool
  | .inl k, v => Value.isInt k v
  | .inr x, v => Value.isStrOf x v
def keyH (w : World) : Key → Int
  | .inl k => hashInt k
  | .inr x => hashStr w x
theorem keyIs_shape : ∀ {k : Key} {v : Value}, keyIs k v = true → (∃ i t, k = Sum.inl i ∧ v = Value.int i t) ∨ (∃ x t, k = Sum.inr x ∧ v = Value.str x t)
  | .inl i, v, h => by
    obtain ⟨t, e⟩ := Value.isInt_shape (k := i) (v := v) h
    exact .inl ⟨i, t, rfl, e⟩
  | .inr x, v, h => by
    obtain ⟨t, e⟩ := Value.isStrOf_shape (x := x) (v := v) h
    exact .inr ⟨x, t, rfl, e⟩
theorem key_ll (a b : Int) : decide ((Sum.inl a : Key) = Sum.inl b) = (a == b) := by
  by_cases e : a = b
  · subst e; simp
  · have h : ¬ (Sum.inl a : Key) = Sum.inl b := fun q => e (Sum.inl.inj q)
    rw [decide_eq_false h]
    exact (beq_eq_false_iff_ne.mpr e).symm
theorem key_rr (a b : Str) : decide ((Sum.inr a : Key) = Sum.inr b) = decide (a = b) := by
  by_cases e : a = b
  · subst e; simp
  · have h : ¬ (Sum.inr a : Key) = Sum.inr b := fun q => e (Sum.inr.inj q)
    rw [decide_eq_false h, decide_eq_false e]
theorem key_lr (a : Int) (b : Str) : decide ((Sum.inl a : Key) = Sum.inr b) = false := decide_eq_false (fun q => nomatch q)
theorem key_rl (a : Str) (b : Int) : decide ((Sum.inr a : Key) = Sum.inl b) = false := decide_eq_false (fun q => nomatch q)

def mixKind (prog : Program) (w : World) : PySem.KeyKind prog w Key where
  is := keyIs
  hash := keyH w
  inj := fun v a b ha hb => by
    rcases keyIs_shape ha with ⟨i, t, rfl, rfl⟩ | ⟨x, t, rfl, rfl⟩
    · rcases keyIs_shape hb with ⟨j, u, rfl, e⟩ | ⟨y, u, rfl, e⟩
      · injection e with e1 _; rw [e1]
      · exact nomatch e
    · rcases keyIs_shape hb with ⟨j, u, rfl, e⟩ | ⟨y, u, rfl, e⟩
      · exact nomatch e
      · injection e with e1 _; rw [e1]
  byValue := fun k v h => by
    rcases keyIs_shape h with ⟨i, t, rfl, rfl⟩ | ⟨x, t, rfl, rfl⟩ <;> rfl
  pyHash := fun hv h => by
    rcases keyIs_shape hv with ⟨i, t, rfl, rfl⟩ | ⟨x, t, rfl, rfl⟩
    · exact wpAny_pyHash_int h
    · exact wpAny_pyHash_str h
  eqBool := fun hu hv h => by
    rcases keyIs_shape hu with ⟨i, t, rfl, rfl⟩ | ⟨x, t, rfl, rfl⟩
    · rcases keyIs_shape hv with ⟨j, u, rfl, rfl⟩ | ⟨y, u, rfl, rfl⟩
      · rw [key_ll] at h; exact wpAny_eqBool_int h
      · rw [key_lr] at h; exact SeqAt.EqAt.int_str i t y u _ _ _ _ h
    · rcases keyIs_shape hv with ⟨j, u, rfl, rfl⟩ | ⟨y, u, rfl, rfl⟩
      · rw [key_rl] at h; exact SeqAt.EqAt.str_int x t j u _ _ _ _ h
      · rw [key_rr] at h; exact wpAny_eqBool_str h
  «strs» := fun k x t v h => by
    rcases keyIs_shape h with ⟨i, u, rfl, e⟩ | ⟨y, u, rfl, e⟩
    · exact nomatch e
    · injection e with e1 _
      subst e1
      cases v <;> rfl

end L2

namespace L2
open PySem PySem.Spec PyProof.Rows

/-- a value, without the heap -/
inductive V where
  | non | bl (b : Bool) | int (i : Int) | str (x : Str) | byt (b : Array UInt8) | flt (b : UInt64) | ref (a : Addr) | ty (n : String)
  deriving DecidableEq

def RelV : V → Value → Prop
  | .non, u => u = Value.none
  | .bl b, u => u = Value.bool b
  | .int i, u => ∃ t, u = Value.int i t
  | .str x, u => ∃ t, u = Value.str x t
  | .byt b, u => ∃ t, u = Value.bytes b t
  | .flt b, u => ∃ t, u = Value.float b t
  | .ref a, u => u = Value.ref a
  | .ty n, u => u = Value.type n

abbrev Vals : List V → List Value → Prop := Paired RelV
theorem Vals.length {xs : List V} {us : List Value} (r : Vals xs us) : xs.length = us.length := Paired.length r
theorem Vals.get : ∀ {xs : List V} {us : List Value} {i : Nat} {x : V}, Vals xs us → xs[i]? = some x → ∃ u, us[i]? = some u ∧ RelV x u
  | _, _, _, _, .nil, e => by simp at e
  | _, _, 0, _, .cons r _, e => by simp at e; subst e; exact ⟨_, rfl, r⟩
  | _, _, i + 1, x, .cons _ t, e => by
    obtain ⟨u, h1, h2⟩ := Vals.get (i := i) (x := x) t (by simpa using e)
    exact ⟨u, by simpa using h1, h2⟩
theorem Vals.set {x : V} {u : Value} (r : RelV x u) : ∀ {xs : List V} {us : List Value} (i : Nat), Vals xs us → Vals (xs.set i x) (us.set i u)
  | _, _, _, .nil => .nil
  | _, _, 0, .cons _ t => .cons r t
  | _, _, i + 1, .cons q t => .cons q (Vals.set r i t)
theorem Vals.append : ∀ {xs ys : List V} {us ws : List Value}, Vals xs us → Vals ys ws → Vals (xs ++ ys) (us ++ ws)
  | _, _, _, _, .nil, s => s
  | _, _, _, _, .cons r t, s => .cons r (Vals.append t s)
theorem Vals.take : ∀ {xs : List V} {us : List Value} (n : Nat), Vals xs us → Vals (xs.take n) (us.take n)
  | _, _, 0, _ => .nil
  | _, _, _ + 1, .nil => .nil
  | _, _, n + 1, .cons r t => .cons r (Vals.take n t)
theorem Vals.drop : ∀ {xs : List V} {us : List Value} (n : Nat), Vals xs us → Vals (xs.drop n) (us.drop n)
  | _, _, 0, r => r
  | _, _, _ + 1, .nil => .nil
  | _, _, n + 1, .cons _ t => Vals.drop n t
theorem Vals.none_of : ∀ {xs : List V} {us : List Value} {i : Nat}, Vals xs us → xs[i]? = none → us[i]? = none := fun {xs us i} r e => by
  have h1 := r.length
  have h2 : xs.length ≤ i := List.getElem?_eq_none_iff.mp e
  exact List.getElem?_eq_none_iff.mpr (by omega)

def RelO : Option V → Option Value → Prop
  | some v, some u => RelV v u
  | none, none => True
  | _, _ => False
def KV {κ : Type} : List (κ × V) → List (κ × Value) → Prop := Paired fun (p : κ × V) (q : κ × Value) => p.1 = q.1 ∧ RelV p.2 q.2

/-- a key of a dict (00_mix): an int or a text -/
def kV : Key → V
  | .inl i => .int i
  | .inr x => .str x

/-- what stands at a tracked address -/
inductive HO where
  /-- a list -/
  | lst (xs : List V)
  /-- a tuple (never changes) -/
  | tup (xs : List V)
  /-- a dict whose keys are ints and texts; one whose keys are tuples of ints and texts (the empty one is both) -/
  | dK (kvs : List (Key × V)) | dT (kvs : List (List Key × V))
  /-- a set of ints: its members, its size -/
  | set (S : Int → Bool) (n : Nat)
  /-- an instance of the class at C, its dict at dx, its attributes -/
  | ins (C dx : Addr) (fs : List (Str × V))
  /-- the dict of the instance at x -/
  | own (x : Addr)
  /-- the dict of an exception -/
  | xd (fs : List (Str × V))
  /-- a bound method, f of x -/
  | met (f x : Addr)
  /-- a range object lo, lo + 1, .. below hi -/
  | rng (lo hi : Int)
  /-- a thing that is known to the object (the script; a dict while a loop walks it): read, never written while it is so -/
  | frz (o : Obj) (u : HO)
  /-- a code object's table -/
  | tbl (ps : Array Value)
  /-- any other thing, by what is true of its one object (a def of one's own: SetO a S n := HO.ext fun h => ..) -/
  | ext (φ : Heap → Prop)

abbrev Hp := Addr → Option HO
def upd (H : Hp) (a : Addr) (o : HO) : Hp := fun b => if b = a then some o else H b
theorem upd_same {H : Hp} {a : Addr} {o : HO} : upd H a o a = some o := by unfold upd; rw [if_pos rfl]
theorem upd_ne {H : Hp} {a b : Addr} {o : HO} (h : b ≠ a) : upd H a o b = H b := by unfold upd; rw [if_neg h]
/-- two objects of different content stand apart -/
theorem ne_of {H : Hp} {a b : Addr} {o u : HO} (h : H a = some o) (h' : H b = some u) (d : o ≠ u) : a ≠ b := by
  intro e; subst e; rw [h] at h'; exact d (Option.some.inj h')
theorem ne_of_none {H : Hp} {a b : Addr} {o : HO} (h : H a = some o) (h' : H b = none) : a ≠ b := by
  intro e; subst e; rw [h] at h'; cases h'

section
variable (P : Program) (w : World)
def ObjOk (H : Hp) (h : Heap) (a : Addr) : HO → Prop
  | .lst xs => xs.length ≤ sizeLine ∧ ∃ (its : List Value) (n : Nat), Vals xs its ∧ h.get? a = some { cls := .type "list", data := .seq its.toArray n }
  | .tup xs => xs.length ≤ sizeLine ∧ ∃ its : List Value, Vals xs its ∧ IsTup h a its.toArray
  | .dK kvs => kvs.length ≤ sizeLine ∧ (a == sysModules) = false ∧ ∃ vs, KV kvs vs ∧ h.DictOf (mixKind P w) a vs
  | .dT kvs => kvs.length ≤ sizeLine ∧ (a == sysModules) = false ∧ ∃ xs : List (List Key × Addr × Value),
      Paired (fun (p : List Key × V) (q : List Key × Addr × Value) => p.1 = q.1 ∧ H q.2.1 = some (.tup (p.1.map kV)) ∧ RelV p.2 q.2.2) kvs xs ∧
      ∃ o es ep, h.get? a = some o ∧ o.ExactDict ∧ o.data = .dict es ep ∧ es.toList = xs.map (entryOfKey (tupleKind (mixKind P w))) ∧ (xs.map (·.1)).Nodup
  | .set S n => h.SetOf (intKind P w) a S n
  | .ins C dx fs => H dx = some (.own a) ∧ fs.length ≤ 1000 ∧ dx ≠ a ∧ h.get? a = some (PySem.W.instObj C dx) ∧
      ∃ mA, h.Ns1 dx mA ∧ (∀ f, RelO (fs.lookup f) (mA f)) ∧ PySem.Within mA (fs.map (·.1))
  | .own _ => ∃ o, h.get? a = some o
  | .xd fs => ∃ mA, h.Ns1 a mA ∧ ∀ f, RelO (fs.lookup f) (mA f)
  | .rng lo hi => ∃ t u v, h.get? a = some { cls := .type "range", data := .fields #[.int lo t, .int hi u, .int 1 v] }
  | .frz o u => h.get? a = some o ∧ ObjOk H h a u
  | .tbl ps => h.get? a = some { cls := .none, data := .fields ps }
  | .met f x => h.get? a = some (PySem.W.methodObj (.ref f) (.ref x))
  | .ext φ => φ h ∧ (∃ o, h.get? a = some o) ∧ ∀ h1 h2 : Heap, φ h1 → (∀ o, h1.get? a = some o → h2.get? a = some o) → φ h2
/-- the abstract heap is held -/
def HOk (H : Hp) (h : Heap) : Prop := ∀ a o, H a = some o → ObjOk P w H h a o
end

section
variable {P : Program} {w : World} {H H' : Hp} {h h' : Heap} {a : Addr} {o : HO}
theorem ObjOk.lt (x : ObjOk P w H h a o) : a < h.objs.size := by
  cases o with
  | lst xs => obtain ⟨_, _, _, _, e⟩ := x; exact Heap.lt_size e
  | tup xs => obtain ⟨_, _, _, p⟩ := x; exact p.lt
  | dK kvs => obtain ⟨_, _, _, _, o, _, _, e, _⟩ := x; exact Heap.lt_size e
  | dT kvs => obtain ⟨_, _, _, _, o, _, _, e, _⟩ := x; exact Heap.lt_size e
  | set S n => obtain ⟨o, _, _, _, e, _⟩ := x; exact Heap.lt_size e
  | ins C dx fs => obtain ⟨_, _, _, e, _⟩ := x; exact Heap.lt_size e
  | own y => obtain ⟨_, e⟩ := x; exact Heap.lt_size e
  | xd fs => obtain ⟨_, ⟨_, _, _, e, _⟩, _⟩ := x; exact Heap.lt_size e
  | rng lo hi => obtain ⟨_, _, _, e⟩ := x; exact Heap.lt_size e
  | frz ob u => obtain ⟨e, _⟩ := x; exact Heap.lt_size e
  | tbl ps => exact Heap.lt_size (show h.get? a = some _ from x)
  | met f y => exact Heap.lt_size (show h.get? a = some _ from x)
  | ext φ => obtain ⟨_, ⟨_, e⟩, _⟩ := x; exact Heap.lt_size e
theorem Paired.mapP {α β : Type} {F G : α → β → Prop} : ∀ {l₁ : List α} {l₂ : List β}, Paired F l₁ l₂ → (∀ a b, F a b → G a b) → Paired G l₁ l₂
  | _, _, .nil, _ => .nil
  | _, _, .cons r t, f => .cons (f _ _ r) (Paired.mapP t f)
/-- what an object's description leans on: its own object, its own dict, the tuples -/
theorem ObjOk.stay (x : ObjOk P w H h a o) (k : ∀ b u, (b = a ∨ H b = some (.own a)) → h.get? b = some u → h'.get? b = some u)
    (ho : ∀ b, H b = some (.own a) → H' b = some (.own a)) (ht : ∀ b xs, H b = some (.tup xs) → H' b = some (.tup xs)) : ObjOk P w H' h' a o := by
  induction o with
  | lst xs => obtain ⟨z, its, n, r, e⟩ := x; exact ⟨z, its, n, r, k _ _ (.inl rfl) e⟩
  | tup xs => obtain ⟨z, its, r, ob, e, c⟩ := x; exact ⟨z, its, r, ob, k _ _ (.inl rfl) e, c⟩
  | dK kvs => obtain ⟨z, y, vs, r, ob, es, ep, e, c⟩ := x; exact ⟨z, y, vs, r, ob, es, ep, k _ _ (.inl rfl) e, c⟩
  | dT kvs =>
    obtain ⟨z, y, xs, r, ob, es, ep, e, c⟩ := x
    exact ⟨z, y, xs, Paired.mapP r fun p q z => ⟨z.1, ht _ _ z.2.1, z.2.2⟩, ob, es, ep, k _ _ (.inl rfl) e, c⟩
  | set S n => obtain ⟨ob, es, ep, t, e, c⟩ := x; exact ⟨ob, es, ep, t, k _ _ (.inl rfl) e, c⟩
  | ins C dx fs =>
    obtain ⟨d, z, ne, e, mA, ⟨od, es, ep, e2, c⟩, r⟩ := x
    exact ⟨ho _ d, z, ne, k _ _ (.inl rfl) e, mA, ⟨od, es, ep, k _ _ (.inr d) e2, c⟩, r⟩
  | own y => obtain ⟨ob, e⟩ := x; exact ⟨ob, k _ _ (.inl rfl) e⟩
  | xd fs => obtain ⟨mA, ⟨od, es, ep, e, c⟩, r⟩ := x; exact ⟨mA, ⟨od, es, ep, k _ _ (.inl rfl) e, c⟩, r⟩
  | rng lo hi => obtain ⟨t, u, v, e⟩ := x; exact ⟨t, u, v, k _ _ (.inl rfl) e⟩
  | frz ob u ih => obtain ⟨e, q⟩ := x; exact ⟨k _ _ (.inl rfl) e, ih q⟩
  | tbl ps =>
    have e : h.get? a = some { cls := .none, data := .fields ps } := x
    show h'.get? a = some { cls := .none, data := .fields ps }
    exact k a _ (.inl rfl) e
  | met f y =>
    have e : h.get? a = some (PySem.W.methodObj (.ref f) (.ref y)) := x
    show h'.get? a = some (PySem.W.methodObj (.ref f) (.ref y))
    exact k a _ (.inl rfl) e
  | ext φ => obtain ⟨p, ⟨o, e⟩, st⟩ := x; exact ⟨st _ _ p fun o q => k _ _ (.inl rfl) q, ⟨o, k _ _ (.inl rfl) e⟩, st⟩
theorem HOk.lt (x : HOk P w H h) (e : H a = some o) : a < h.objs.size := (x a o e).lt
theorem HOk.fresh (x : HOk P w H h) (e : h.objs.size ≤ a) : H a = none := by
  cases q : H a with
  | none => rfl
  | some u => exact absurd (Nat.lt_of_lt_of_le (x.lt q) e) (Nat.lt_irrefl _)
/-- every object of the heap is kept -/
theorem HOk.kept (x : HOk P w H h) (k : ∀ b u, h.get? b = some u → h'.get? b = some u) : HOk P w H h' := fun a o e =>
  (x a o e).stay (fun b u _ q => k b u q) (fun _ q => q) fun _ _ q => q
/-- a new object is laid and tracked -/
theorem HOk.laid (x : HOk P w H h) (k : ∀ b u, h.get? b = some u → h'.get? b = some u) (hp : h.objs.size ≤ a) (new : ObjOk P w (upd H a o) h' a o) : HOk P w (upd H a o) h' := fun b u e => by
  have hn := x.fresh hp
  by_cases hb : b = a
  · subst hb; rw [upd_same] at e; cases e; exact new
  · rw [upd_ne hb] at e
    exact (x b u e).stay (fun c v _ q => k c v q) (fun c q => by rw [upd_ne (ne_of_none q hn)]; exact q) fun c xs q => by rw [upd_ne (ne_of_none q hn)]; exact q
end

/-- what may be read as u: it is u, or a known u -/
def Rd (H : Hp) (a : Addr) (u : HO) : Prop := H a = some u ∨ ∃ o, H a = some (.frz o u)
theorem Rd.of {H : Hp} {a : Addr} {u : HO} (h : H a = some u) : Rd H a u := .inl h
theorem Rd.ok {P : Program} {w : World} {H : Hp} {h : Heap} {a : Addr} {u : HO} (r : Rd H a u) (x : HOk P w H h) : ObjOk P w H h a u := by
  rcases r with r | ⟨o, r⟩
  · exact x a u r
  · obtain ⟨_, q⟩ := x a _ r
    exact q
/-- what may be written -/
def Mut : Option HO → Prop
  | some (.lst _) => True
  | some (.dK _) => True
  | some (.dT _) => True
  | some (.set _ _) => True
  | some (.ins _ _ _) => True
  | some (.ext _) => True
  | _ => False
section
variable {P : Program} {w : World} {H : Hp} {h h' : Heap} {x e : Addr} {o' : HO}
/-- the object at e is changed: x itself, or the dict of the instance x -/
theorem HOk.write (ok : HOk P w H h) (mu : Mut (H x)) (he : e = x ∨ H e = some (.own x)) (k : ∀ b u, b ≠ e → h.get? b = some u → h'.get? b = some u) (heo : ∃ u, h'.get? e = some u)
    (new : ObjOk P w (upd H x o') h' x o') : HOk P w (upd H x o') h' := fun b u q => by
  have nown : ∀ c y, H c = some (.own y) → c ≠ x := fun c y r z => by subst z; rw [r] at mu; exact mu
  have ntup : ∀ c xs, H c = some (.tup xs) → c ≠ x := fun c xs r z => by subst z; rw [r] at mu; exact mu
  by_cases hb : b = x
  · subst hb; rw [upd_same] at q; cases q; exact new
  · rw [upd_ne hb] at q
    by_cases hbe : b = e
    · have q' : H b = some (.own x) := by
        rcases he with z | z
        · exact absurd (hbe.trans z) hb
        · rw [hbe]; exact z
      rw [q] at q'; cases q'
      obtain ⟨v, hv⟩ := heo
      exact ⟨v, by rw [hbe]; exact hv⟩
    · refine (ok b u q).stay (fun c v hc r => k c v ?_ r) (fun c r => by rw [upd_ne (nown c b r)]; exact r) fun c xs r => by rw [upd_ne (ntup c xs r)]; exact r
      rcases hc with rfl | hc
      · exact hbe
      · rintro rfl
        rcases he with z | z
        · exact nown c b hc z
        · rw [hc] at z; cases z; exact hb rfl
end

/-! ### kept unless tracked; of the frames at fs (the callers') the slots may change (an exception that passes writes there); of the records at ex (iterators) nothing is said -/
structure Un (fs ex : List Addr) (H H' : Hp) (h h' : Heap) : Prop where
  keep : ∀ b o, h.get? b = some o → H b = none → b ∉ fs → b ∉ ex → h'.get? b = some o
  slot : ∀ b o, h.get? b = some o → H b = none → b ∈ fs → b ∉ ex → ∃ sl, h'.get? b = some { o with slots := sl }
  free : ∀ b o, h.get? b = some o → H b = none → b ∉ ex → H' b = none
  there : ∀ b o, h.get? b = some o → b ∉ ex → ∃ o', h'.get? b = some o'
  tups : ∀ b xs, H b = some (.tup xs) → H' b = some (.tup xs)
  frzs : ∀ b o u, H b = some (.frz o u) → H' b = some (.frz o u)
  tbls : ∀ b ps, H b = some (.tbl ps) → ∃ more, H' b = some (.tbl (ps ++ more))
section
variable {fs fs' ex ex' : List Addr} {H H1 H2 : Hp} {h h1 h2 h' : Heap} {a x e : Addr} {o : HO}
theorem Un.any (u : Un fs ex H H1 h h1) {b : Addr} {ob : Obj} (q : h.get? b = some ob) (n : H b = none) (hx : b ∉ ex) : ∃ sl, h1.get? b = some { ob with slots := sl } := by
  by_cases hb : b ∈ fs
  · exact u.slot b ob q n hb hx
  · exact ⟨ob.slots, u.keep b ob q n hb hx⟩
theorem Un.trans (a : Un fs ex H H1 h h1) (b : Un fs ex H1 H2 h1 h2) : Un fs ex H H2 h h2 where
  keep := fun c ob q n hc hx => b.keep c ob (a.keep c ob q n hc hx) (a.free c ob q n hx) hc hx
  slot := fun c ob q n hc hx => by
    obtain ⟨sl, e1⟩ := a.slot c ob q n hc hx
    obtain ⟨sl', e2⟩ := b.slot c _ e1 (a.free c ob q n hx) hc hx
    exact ⟨sl', e2⟩
  free := fun c ob q n hx => by
    obtain ⟨o', e1⟩ := a.there c ob q hx
    exact b.free c o' e1 (a.free c ob q n hx) hx
  there := fun c ob q hx => by
    obtain ⟨o', e1⟩ := a.there c ob q hx
    exact b.there c o' e1 hx
  tups := fun c xs q => b.tups c xs (a.tups c xs q)
  frzs := fun c ob xs q => b.frzs c ob xs (a.frzs c ob xs q)
  tbls := fun c ps q => by
    obtain ⟨m1, e1⟩ := a.tbls c ps q
    obtain ⟨m2, e2⟩ := b.tbls c _ e1
    exact ⟨m1 ++ m2, by rw [e2, Array.append_assoc]⟩
theorem Un.kept (k : ∀ b u, h.get? b = some u → h'.get? b = some u) : Un fs ex H H h h' :=
  ⟨fun b ob q _ _ _ => k b ob q, fun b ob q _ _ _ => ⟨ob.slots, k b ob q⟩, fun _ _ _ n _ => n, fun b ob q _ => ⟨ob, k b ob q⟩, fun _ _ q => q, fun _ _ _ q => q, fun _ ps q => ⟨#[], by rw [q]; simp⟩⟩
theorem Un.refl : Un fs ex H H h h := Un.kept fun _ _ q => q
theorem Un.laid (k : ∀ b u, h.get? b = some u → h'.get? b = some u) (hp : h.objs.size ≤ a) (hn : H a = none) : Un fs ex H (upd H a o) h h' where
  keep := fun b u q _ _ _ => k b u q
  slot := fun b u q _ _ _ => ⟨u.slots, k b u q⟩
  free := fun b u q n _ => by rw [upd_ne (Nat.ne_of_lt (Nat.lt_of_lt_of_le (Heap.lt_size q) hp))]; exact n
  there := fun b u q _ => ⟨u, k b u q⟩
  tups := fun b xs q => by rw [upd_ne (ne_of_none q hn)]; exact q
  frzs := fun b u xs q => by rw [upd_ne (ne_of_none q hn)]; exact q
  tbls := fun b ps q => ⟨#[], by rw [upd_ne (ne_of_none q hn), q]; simp⟩
theorem Un.write (mu : Mut (H x)) (he : e = x ∨ H e = some (.own x)) (k : ∀ b u, b ≠ e → h.get? b = some u → h'.get? b = some u) (heo : ∃ u, h'.get? e = some u) : Un fs ex H (upd H x o) h h' := by
  have hx : ∀ b, H b = none → b ≠ x := fun b n z => by subst z; rw [n] at mu; exact mu
  have hb : ∀ b, H b = none → b ≠ e := fun b n z => by
    subst z
    rcases he with r | r
    · exact hx b n r
    · rw [n] at r; cases r
  have hm : ∀ b u, H b = some u → ¬ Mut (some u) → b ≠ x := fun b u q nm z => by subst z; rw [q] at mu; exact nm mu
  refine ⟨fun b u q n _ _ => k b u (hb b n) q, fun b u q n _ _ => ⟨u.slots, k b u (hb b n) q⟩, fun b u q n _ => by rw [upd_ne (hx b n)]; exact n, fun b u q _ => ?_,
    fun b xs q => by rw [upd_ne (hm b _ q fun z => z)]; exact q, fun b u xs q => by rw [upd_ne (hm b _ q fun z => z)]; exact q, fun b ps q => ⟨#[], by rw [upd_ne (hm b _ q fun z => z), q]; simp⟩⟩
  by_cases hbe : b = e
  · subst hbe; exact heo
  · exact ⟨u, k b u hbe q⟩
theorem Un.mono (u : Un fs ex H H1 h h1) (hs : ∀ b ∈ fs, b ∈ fs') (hx : ∀ b ∈ ex, b ∈ ex') : Un fs' ex' H H1 h h1 :=
  ⟨fun b ob q n hb he => u.keep b ob q n (fun z => hb (hs b z)) fun z => he (hx b z), fun _ _ q n _ he => u.any q n fun z => he (hx _ z), fun b ob q n he => u.free b ob q n fun z => he (hx b z), fun b ob q he => u.there b ob q fun z => he (hx b z), u.tups, u.frzs, u.tbls⟩
end

/-! ### the heap without what is tracked -/
def trk (h : Heap) (H : Hp) : List Addr := (List.range h.objs.size).filter fun a => (H a).isSome
def hidT (h : Heap) (H : Hp) : Heap := PySem.W.hideAll h (trk h H)
theorem hidT_size (h : Heap) (H : Hp) : (hidT h H).objs.size = h.objs.size := PySem.W.hideAll_size _ _
theorem hidT_get {h : Heap} {H : Hp} {b : Addr} {o : Obj} (e : h.get? b = some o) (n : H b = none) : (hidT h H).get? b = some o :=
  PySem.W.hideAll_get _ e fun hm => by
    have q : (H b).isSome = true := (List.mem_filter.mp hm).2
    rw [n] at q; simp at q
theorem of_hidT {h : Heap} {H : Hp} {b : Addr} {o : Obj} (e : (hidT h H).get? b = some o) : h.get? b = some o ∧ H b = none := by
  have e' : h.get? b = some o := PySem.W.of_hideAll (trk h H) e
  refine ⟨e', ?_⟩
  cases q : H b with
  | none => rfl
  | some x =>
    have hm : b ∈ trk h H := List.mem_filter.mpr ⟨List.mem_range.mpr (Heap.lt_size e'), by simp [q]⟩
    have z : (hidT h H).get? b = none := PySem.W.hideAll_none (trk h H) hm
    rw [z] at e; cases e

/-! ### OpenK's ledger, filled with every new object but one -/
def allNews (g h : Heap) (L : Addr) : List (Addr × Obj) := (List.range h.objs.size).filterMap fun a => if a = L ∨ (g.get? a).isSome = true then none else (h.get? a).map fun o => (a, o)
def rest (g h : Heap) (L d : Addr) : List (Addr × Obj) := (allNews g h L).filter fun p => decide (p.1 ≠ d)
end L2

namespace L2
open PySem PySem.Spec PyProof.Rows

/-- the module's facts, over the base: the heap at the law's entry without what is tracked there -/
structure Mod (K : PySem.W.Frag) (mg : Str → Option Value) (base : Heap) : Prop where
  kin : K.In base
  glob : base.Ns mainGlobals mg
  blt : ∃ mb, base.Ns builtinsNs mb ∧ ∀ x : Str, x ≠ "__name__" → mb x = bootBuiltins x
  nolimit : base.NoLimit

/-- the context: a def's body (or a comprehension's block) running. base: fixed through the whole law; s₀, H₀: the entry; outer: the frames whose slots others may change (a def's callers); stack: all frames that run;
   ex: iterators that were made ahead of the entry and are walked here (a comprehension's); fn: the names whose cells were made at the entry (a def: all; a comprehension's block: its own); calm: not within an except suite; pn: pins that every state bears; xe: what is wanted of an exception that leaves the code -/
structure Cx where
  prog : Program
  w : World
  K : PySem.W.Frag
  mg : Str → Option Value
  base : Heap
  A : Around
  N : List Str
  s₀ : Shared
  H₀ : Hp
  env : Env
  outer : List Env
  stack : List Env
  ex : List Addr
  fn : Str → Bool
  calm : Bool
  pn : List (Addr × Obj)
  xe : Value → Shared → Prop
/-- the callers' frames -/
def frs (l : List Env) : List Addr := l.filterMap (·.frame)
abbrev Cx.fs (X : Cx) : List Addr := frs X.outer

def Vis (sc : Scope) (x : Str) : Prop := sc.names.lookup x = some .local ∨ sc.names.lookup x = some .cell ∨ sc.names.lookup x = some .free
def Loc (sc : Scope) (x : Str) : Prop := sc.names.lookup x = some .local ∨ sc.names.lookup x = some .cell
def Look (env : Env) (h : Heap) (m : Str → Option Value) (x : Str) (u : Value) : Prop :=
  (env.kindOf x = some .local ∧ m x = some u) ∨ ((env.kindOf x = some .cell ∨ env.kindOf x = some .free) ∧ ∃ c, env.cells.lookup x = some c ∧ h.IsCell c (some u))

structure Cx.Ok (X : Cx) : Prop where
  mod : Mod X.K X.mg X.base
  kind : X.env.scope.kind = .function
  glob : X.env.globals = mainGlobals
  blt : X.env.builtins = builtinsNs
  above : X.s₀.heap.objs.size ≤ X.env.locals
  inj : ∀ x y c, X.env.cells.lookup x = some c → X.env.cells.lookup y = some c → x = y
  has : ∀ x, (X.env.kindOf x = some .cell ∨ X.env.kindOf x = some .free) → ∃ c, X.env.cells.lookup x = some c
  cab : ∀ x c, X.fn x = true → X.env.cells.lookup x = some c → X.s₀.heap.objs.size ≤ c
  hd : X.calm = true → X.A.handled = none
  frames : X.A.frames = some X.stack
  stk : X.stack = X.outer ∨ (X.stack = X.env :: X.outer ∧ X.env.frame = some X.env.locals)
  exf : ∀ b ∈ X.ex, b ≠ X.env.locals ∧ ∀ x c, X.env.cells.lookup x = some c → c ≠ b
  bs : ∀ b o, X.base.get? b = some o → X.s₀.heap.get? b = some o ∧ X.H₀ b = none
  bsz : X.base.objs.size ≤ X.s₀.heap.objs.size
  noex : ∀ b o, X.base.get? b = some o → b ∉ X.ex
  exfs : ∀ b ∈ X.ex, b ∉ X.fs
  funs : X.s₀.heap.FunFrames X.base X.outer
  frf : ∀ b ∈ X.fs, X.H₀ b = none

structure Inv (X : Cx) (pins : List (Addr × Obj)) (σ : List (Option V)) (H : Hp) (s : Shared) : Prop where
  ok : X.Ok
  os : s.os = X.s₀.os
  bare : AllBare s.gens
  base : Un X.fs X.ex X.H₀ H X.s₀.heap s.heap
  loc : ∃ m, s.heap.Ns X.env.locals m ∧ ∀ (i : Nat) (x : Str) (v : V), X.N[i]? = some x → σ[i]? = some (some v) → Vis X.env.scope x → ∃ u, RelV v u ∧ Look X.env s.heap m x u
  cell : ∀ x c, X.env.cells.lookup x = some c → ∃ v, s.heap.IsCell c v
  free : H X.env.locals = none
  freeC : ∀ x c, X.env.cells.lookup x = some c → H c = none
  pin : ∀ p ∈ X.pn ++ pins, s.heap.get? p.1 = some p.2 ∧ H p.1 = none ∧ p.1 ≠ X.env.locals ∧ p.1 ∉ X.fs ∧ ∀ v, p.2.data ≠ .cell v
  hok : HOk X.prog X.w H s.heap
  len : σ.length = X.N.length

section
variable {X : Cx} {pins : List (Addr × Obj)} {σ : List (Option V)} {H H' : Hp} {s : Shared} {h' : Heap}

theorem Cx.Ok.nofr (ok : X.Ok) {b : Addr} {o : Obj} (e : X.base.get? b = some o) : b ∉ X.fs := fun hb => by
  have := (ok.funs.mem hb).1
  rw [e] at this; cases this
theorem Inv.bs (I : Inv X pins σ H s) : ∀ b o, X.base.get? b = some o → s.heap.get? b = some o ∧ H b = none := fun b o e =>
  ⟨I.base.keep b o (I.ok.bs b o e).1 (I.ok.bs b o e).2 (I.ok.nofr e) (I.ok.noex b o e), I.base.free b o (I.ok.bs b o e).1 (I.ok.bs b o e).2 (I.ok.noex b o e)⟩
theorem Inv.bk (I : Inv X pins σ H s) : ∀ b o, X.base.get? b = some o → s.heap.get? b = some o := fun b o e => (I.bs b o e).1
theorem Inv.mod (I : Inv X pins σ H s) : Mod X.K X.mg X.base := I.ok.mod
theorem Inv.kIn (I : Inv X pins σ H s) : X.K.In s.heap := I.ok.mod.kin.keeps I.bk
theorem Inv.nolimit (I : Inv X pins σ H s) : s.heap.NoLimit := I.ok.mod.nolimit.keeps I.bk
/-- the frame over the base: for OpenK's rules (K.In X.base is I.mod.kin) -/
theorem Inv.fr (I : Inv X pins σ H s) : ∃ m, Fr X.base X.env.locals s.heap m :=
  let ⟨m, hn, _⟩ := I.loc
  ⟨m, hn, I.bk, Nat.le_trans I.ok.bsz I.ok.above⟩
theorem Inv.lt (I : Inv X pins σ H s) : X.env.locals < s.heap.objs.size := let ⟨_, hn, _⟩ := I.loc; hn.lt
theorem Inv.sz (I : Inv X pins σ H s) : X.s₀.heap.objs.size ≤ s.heap.objs.size := Nat.le_trans I.ok.above (Nat.le_of_lt I.lt)
theorem Inv.nofs (I : Inv X pins σ H s) {a : Addr} (h : s.heap.objs.size ≤ a) : a ∉ X.fs := fun hb => by
  obtain ⟨_, o, ho, _⟩ := I.ok.funs.mem hb
  exact absurd (Nat.lt_of_lt_of_le (Heap.lt_size ho) (Nat.le_trans I.sz h)) (Nat.lt_irrefl _)
theorem Inv.cne (I : Inv X pins σ H s) : ∀ x c, X.env.cells.lookup x = some c → c ≠ X.env.locals := fun x c e z => by
  obtain ⟨v, o, ho, hd⟩ := I.cell x c e
  obtain ⟨m, ⟨o', es, ep, ho', hd', _⟩, _⟩ := I.loc
  rw [z, ho'] at ho; cases ho; rw [hd'] at hd; cases hd
theorem Inv.funs (I : Inv X pins σ H s) : s.heap.FunFrames X.base X.outer := by
  have all : ∀ (l : List Env), (∀ b ∈ frs l, b ∈ X.fs) → X.s₀.heap.FunFrames X.base l → s.heap.FunFrames X.base l := by
    intro l
    induction l with
    | nil => intro _ _; trivial
    | cons env r ih =>
      intro hs hl
      obtain ⟨hk, ⟨L, o, hf, hn, ho, hd⟩, hr⟩ := hl
      have hL : L ∈ X.fs := hs L (by unfold frs; rw [List.filterMap_cons, hf]; exact List.mem_cons_self)
      obtain ⟨sl, e⟩ := I.base.slot L o ho (I.ok.frf L hL) hL fun z => I.ok.exfs L z hL
      exact ⟨hk, ⟨L, _, hf, hn, e, hd⟩, ih (fun b hb => hs b (by unfold frs; rw [List.filterMap_cons, hf]; exact List.mem_cons_of_mem _ hb)) hr⟩
  exact all X.outer (fun _ hb => hb) I.ok.funs

/-- the frames that run, for a call -/
theorem Inv.stack (I : Inv X pins σ H s) : s.heap.FunFrames X.base X.stack := by
  rcases I.ok.stk with e | ⟨e, hf⟩
  · rw [e]; exact I.funs
  · rw [e]
    obtain ⟨m, hn, _⟩ := I.loc
    refine .cons (by rw [I.ok.kind]; decide) hf hn ?_ I.funs
    exact Heap.get?_none_of_le (Nat.le_trans I.ok.bsz I.ok.above)
theorem Inv.stkSub (I : Inv X pins σ H s) : ∀ b ∈ frs X.stack, b ∈ X.env.locals :: X.fs := fun b hb => by
  rcases I.ok.stk with e | ⟨e, hf⟩
  · rw [e] at hb; exact List.mem_cons_of_mem _ hb
  · rw [e] at hb
    unfold frs at hb
    rw [List.filterMap_cons, hf] at hb
    exact hb
theorem Inv.stkFree (I : Inv X pins σ H s) : ∀ b ∈ frs X.stack, H b = none := fun b hb => by
  rcases List.mem_cons.mp (I.stkSub b hb) with e | hb
  · rw [e]; exact I.free
  · obtain ⟨_, o, ho, _⟩ := I.ok.funs.mem hb
    exact I.base.free b o ho (I.ok.frf b hb) fun z => I.ok.exfs b z hb

/-- THE STEP: the untracked objects but the frame and the records at ch are kept (the callers' frames up to slots), the frame's map is kept, the new abstract heap is held -/
theorem Inv.step {g' : Array GenState} {t' : Nat} {d' : Drawn} {ch : List Addr} (I : Inv X pins σ H s)
    (hch : ∀ b ∈ ch, (b ∈ X.ex ∨ X.s₀.heap.objs.size ≤ b) ∧ b ≠ X.env.locals ∧ (∀ x c, X.env.cells.lookup x = some c → c ≠ b) ∧ ∀ p ∈ X.pn ++ pins, p.1 ≠ b)
    (keep : ∀ b o, b ≠ X.env.locals → b ∉ X.fs → b ∉ ch → s.heap.get? b = some o → H b = none → h'.get? b = some o)
    (slot : ∀ b o, b ≠ X.env.locals → b ∈ X.fs → b ∉ ch → s.heap.get? b = some o → H b = none → ∃ sl, h'.get? b = some { o with slots := sl }) (free : ∀ b o, b ∉ ch → s.heap.get? b = some o → H b = none → H' b = none)
    (there : ∀ b o, b ∉ ch → s.heap.get? b = some o → ∃ o', h'.get? b = some o')
    (tups : ∀ b xs, H b = some (.tup xs) → H' b = some (.tup xs)) (frzs : ∀ b o u, H b = some (.frz o u) → H' b = some (.frz o u)) (tbls : ∀ b ps, H b = some (.tbl ps) → ∃ more, H' b = some (.tbl (ps ++ more)))
    (ns : ∀ m, s.heap.Ns X.env.locals m → h'.Ns X.env.locals m) (hok : HOk X.prog X.w H' h') (hg : AllBare g') :
    Inv X pins σ H' { s with heap := h', gens := g', drawn := d', toks := t' } := by
  have neL : ∀ b o, X.s₀.heap.get? b = some o → b ≠ X.env.locals := fun b o e => Nat.ne_of_lt (Nat.lt_of_lt_of_le (Heap.lt_size e) I.ok.above)
  have neC : ∀ b o, X.s₀.heap.get? b = some o → b ∉ X.ex → b ∉ ch := fun b o e hx hb => by
    rcases (hch b hb).1 with z | z
    · exact hx z
    · exact absurd (Nat.lt_of_lt_of_le (Heap.lt_size e) z) (Nat.lt_irrefl _)
  have cellK : ∀ x c, X.env.cells.lookup x = some c → ∀ v, s.heap.IsCell c v → h'.IsCell c v := fun x c e v ⟨o, ho, hd⟩ => by
    have nch : c ∉ ch := fun z => (hch c z).2.2.1 x c e rfl
    by_cases hc : c ∈ X.fs
    · obtain ⟨sl, q⟩ := slot c o (I.cne x c e) hc nch ho (I.freeC x c e)
      exact ⟨_, q, hd⟩
    · exact ⟨o, keep c o (I.cne x c e) hc nch ho (I.freeC x c e), hd⟩
  refine ⟨I.ok, I.os, hg, ⟨fun b o e n hb hx => ?_, fun b o e n hb hx => ?_, fun b o e n hx => ?_, fun b o e hx => ?_, fun b xs e => tups b xs (I.base.tups b xs e), fun b o xs e => frzs b o xs (I.base.frzs b o xs e), fun b ps e => ?_⟩, ?_, fun x c e => ?_, ?_, fun x c e => ?_, fun p hp => ?_, hok, I.len⟩
  · exact keep b o (neL b o e) hb (neC b o e hx) (I.base.keep b o e n hb hx) (I.base.free b o e n hx)
  · obtain ⟨sl, e1⟩ := I.base.slot b o e n hb hx
    obtain ⟨sl', e2⟩ := slot b _ (neL b o e) hb (neC b o e hx) e1 (I.base.free b o e n hx)
    exact ⟨sl', e2⟩
  · obtain ⟨o', e1⟩ := I.base.there b o e hx
    exact free b o' (neC b o e hx) e1 (I.base.free b o e n hx)
  · obtain ⟨o', e1⟩ := I.base.there b o e hx
    exact there b o' (neC b o e hx) e1
  · obtain ⟨m1, e1⟩ := I.base.tbls b ps e
    obtain ⟨m2, e2⟩ := tbls b _ e1
    exact ⟨m1 ++ m2, by rw [e2, Array.append_assoc]⟩
  · obtain ⟨m, hn, hl⟩ := I.loc
    refine ⟨m, ns m hn, fun i x v e1 e2 e3 => ?_⟩
    obtain ⟨u, r, l⟩ := hl i x v e1 e2 e3
    refine ⟨u, r, ?_⟩
    rcases l with l | ⟨k, c, e, z⟩
    · exact .inl l
    · exact .inr ⟨k, c, e, cellK x c e _ z⟩
  · obtain ⟨v, z⟩ := I.cell x c e
    exact ⟨v, cellK x c e v z⟩
  · obtain ⟨m, ⟨o, _, _, ho, _⟩, _⟩ := I.loc
    exact free _ o (fun z => (hch _ z).2.1 rfl) ho I.free
  · obtain ⟨v, o, ho, hd⟩ := I.cell x c e
    exact free c o (fun z => (hch c z).2.2.1 x c e rfl) ho (I.freeC x c e)
  · obtain ⟨e, n, ne, nf, d⟩ := I.pin p hp
    have nch : p.1 ∉ ch := fun z => (hch p.1 z).2.2.2 p hp rfl
    exact ⟨keep p.1 p.2 ne nf nch e n, free p.1 p.2 nch e n, ne, nf, d⟩
/-- .. where the frame's own object is kept too -/
theorem Inv.un {t' : Nat} (I : Inv X pins σ H s) (u : Un X.fs [] H H' s.heap h') (hok : HOk X.prog X.w H' h') : Inv X pins σ H' { s with heap := h', toks := t' } := by
  obtain ⟨m, ⟨o, es, ep, ho, r⟩, _⟩ := id I.loc
  obtain ⟨sl, hL⟩ := u.any ho I.free (by simp)
  exact I.step (g' := s.gens) (d' := s.drawn) (ch := []) (fun _ z => nomatch z) (fun b o _ hb _ e n => u.keep b o e n hb (by simp)) (fun b o _ hb _ e n => u.slot b o e n hb (by simp)) (fun b o _ e n => u.free b o e n (by simp)) (fun b o _ e => u.there b o e (by simp)) u.tups u.frzs u.tbls (fun m' hm => by
    obtain ⟨o', es', ep', ho', r'⟩ := hm
    rw [ho] at ho'; cases ho'
    exact ⟨_, es', ep', hL, r'⟩) hok I.bare
/-- behind a call (or a comprehension's block): the slots of this frame may have changed too, the records at ch may have turned -/
theorem Inv.call {g' : Array GenState} {t' : Nat} {d' : Drawn} {ch : List Addr} (I : Inv X pins σ H s) (u : Un (frs X.stack) ch H H' s.heap h') (hok : HOk X.prog X.w H' h') (hg : AllBare g')
    (hch : ∀ b ∈ ch, (b ∈ X.ex ∨ X.s₀.heap.objs.size ≤ b) ∧ b ≠ X.env.locals ∧ (∀ x c, X.env.cells.lookup x = some c → c ≠ b) ∧ ∀ p ∈ X.pn ++ pins, p.1 ≠ b) :
    Inv X pins σ H' { s with heap := h', gens := g', drawn := d', toks := t' } := by
  obtain ⟨m, ⟨o, es, ep, ho, r⟩, _⟩ := id I.loc
  obtain ⟨sl, hL⟩ := u.any ho I.free fun z => (hch _ z).2.1 rfl
  exact I.step (ch := ch) hch (fun b o hL hb hc e n => u.keep b o e n (fun z => (List.mem_cons.mp (I.stkSub b z)).elim hL hb) hc) (fun b o _ _ hc e n => u.any e n hc) (fun b o hc e n => u.free b o e n hc) (fun b o hc e => u.there b o e hc) u.tups u.frzs u.tbls (fun m' hm => by
    obtain ⟨o', es', ep', ho', r'⟩ := hm
    rw [ho] at ho'; cases ho'
    exact ⟨_, es', ep', hL, r'⟩) hok hg
/-- an untracked record of ours (an iterator) has turned -/
theorem Inv.turned {t' : Nat} {it : Addr} (I : Inv X pins σ H s) (k : ∀ b o, b ≠ it → s.heap.get? b = some o → h'.get? b = some o) (hn : H it = none) (hL : it ≠ X.env.locals)
    (h1 : it ∈ X.ex ∨ X.s₀.heap.objs.size ≤ it) (h2 : ∀ x c, X.env.cells.lookup x = some c → c ≠ it) (h3 : ∀ p ∈ X.pn ++ pins, p.1 ≠ it) : Inv X pins σ H { s with heap := h', toks := t' } := by
  have nit : ∀ b u, H b = some u → b ≠ it := fun b u e z => by rw [z, hn] at e; cases e
  refine I.step (g' := s.gens) (d' := s.drawn) (ch := [it]) (fun b hb => ?_) (fun b o _ _ hc e _ => k b o (fun z => hc (by simp [z])) e) (fun b o _ _ hc e _ => ⟨o.slots, k b o (fun z => hc (by simp [z])) e⟩) (fun _ _ _ _ n => n)
    (fun b o hc e => ⟨o, k b o (fun z => hc (by simp [z])) e⟩) (fun _ _ e => e) (fun _ _ _ e => e) (fun b ps e => ⟨#[], by rw [e]; simp⟩) (fun m hm => ?_) (fun b u e => ?_) I.bare
  · have e : b = it := by simpa using hb
    subst e
    exact ⟨h1, hL, h2, h3⟩
  · obtain ⟨o, es, ep, ho, r⟩ := hm
    exact ⟨o, es, ep, k _ o (Ne.symm hL) ho, r⟩
  · refine (I.hok b u e).stay (fun c v hc q => k c v ?_ q) (fun _ q => q) fun _ _ q => q
    rcases hc with z | z
    · rw [z]; exact nit b u e
    · exact nit c _ z
theorem Inv.tok (I : Inv X pins σ H s) (t : Nat) : Inv X pins σ H { s with toks := t } := I.un (h' := s.heap) (t' := t) Un.refl I.hok
/-- all objects kept -/
theorem Inv.kept {t' : Nat} (I : Inv X pins σ H s) (k : ∀ b u, s.heap.get? b = some u → h'.get? b = some u) : Inv X pins σ H { s with heap := h', toks := t' } := I.un (Un.kept k) (I.hok.kept k)
/-- a new object laid and tracked -/
theorem Inv.laid {a : Addr} {o : HO} {t' : Nat} (I : Inv X pins σ H s) (k : ∀ b u, s.heap.get? b = some u → h'.get? b = some u) (hp : s.heap.objs.size ≤ a) (new : ObjOk X.prog X.w (upd H a o) h' a o) :
    Inv X pins σ (upd H a o) { s with heap := h', toks := t' } := I.un (Un.laid k hp (I.hok.fresh hp)) (I.hok.laid k hp new)
/-- an object written -/
theorem Inv.write {x e : Addr} {o : HO} {t' : Nat} (I : Inv X pins σ H s) (mu : Mut (H x)) (he : e = x ∨ H e = some (.own x)) (k : ∀ b u, b ≠ e → s.heap.get? b = some u → h'.get? b = some u) (heo : ∃ u, h'.get? e = some u)
    (new : ObjOk X.prog X.w (upd H x o) h' x o) : Inv X pins σ (upd H x o) { s with heap := h', toks := t' } := I.un (Un.write mu he k heo) (I.hok.write mu he k heo new)
theorem Inv.pins_of {pins' : List (Addr × Obj)} (I : Inv X pins σ H s) (h : ∀ p ∈ pins', s.heap.get? p.1 = some p.2 ∧ H p.1 = none ∧ p.1 ≠ X.env.locals ∧ p.1 ∉ X.fs ∧ ∀ v, p.2.data ≠ .cell v) : Inv X pins' σ H s :=
  ⟨I.ok, I.os, I.bare, I.base, I.loc, I.cell, I.free, I.freeC, fun p hp => (List.mem_append.mp hp).elim (fun z => I.pin p (List.mem_append_left _ z)) (h p), I.hok, I.len⟩

theorem nodup_ix {N : List Str} (hN : N.Nodup) {i j : Nat} {x : Str} (a : N[i]? = some x) (b : N[j]? = some x) : i = j := by
  obtain ⟨h1, e1⟩ := List.getElem?_eq_some_iff.mp a
  obtain ⟨h2, e2⟩ := List.getElem?_eq_some_iff.mp b
  exact (List.getElem_inj hN).mp (e1.trans e2.symm)

/-- a name is stored; what changed -/
theorem store_ok2 {M : Model} {A : Around} {E : Value → Shared → Prop} {i : Nat} {x : Str} {v : V} {u : Value} {Q : Unit → Shared → Prop} (I : Inv X pins σ H s) (hN : X.N.Nodup) (hi : X.N[i]? = some x) (hx : Loc X.env.scope x) (r : RelV v u)
    (h : ∀ s', Inv X pins (σ.set i (some v)) H s' → (∃ a, Heap.SameBut a s.heap s'.heap ∧ (a = X.env.locals ∨ X.env.cells.lookup x = some a)) → Q () s') (hf : X.fn x = true ∨ X.env.scope.names.lookup x = some .local := by first | exact .inl rfl | exact .inr rfl | assumption) : wpAny M A (storeName X.env x u) Q E s := by
  obtain ⟨m, hn, hl⟩ := id I.loc
  have hcls : (X.env.scope.kind == .class || (X.env.scope.kind == .module && X.env.locals != X.env.globals)) = false := by rw [I.ok.kind]; rfl
  have hiσ : i < σ.length := by rw [I.len]; exact (List.getElem?_eq_some_iff.mp hi).1
  have cne := I.cne
  have tracked : ∀ {a : Addr} {h' : Heap}, (∃ o, s.heap.get? a = some o ∧ H a = none) → Heap.SameBut a s.heap h' → HOk X.prog X.w H h' := fun {a h'} ha hs b ob e => by
    obtain ⟨_, _, hfree⟩ := ha
    refine (I.hok b ob e).stay (fun c w' hc q => (hs.2 c ?_).trans q) (fun _ q => q) fun _ _ q => q
    rintro rfl
    rcases hc with rfl | hc
    · rw [hfree] at e; cases e
    · rw [hfree] at hc; cases hc
  rcases hx with hk | hk
  · refine wpAny_storeName_local hk hn (fun h' hn' hs => ?_) hcls
    obtain ⟨oL, _, _, hoL, _⟩ := id hn
    refine h _ ⟨I.ok, I.os, I.bare, ⟨fun b o e n hb hx => ?_, fun b o e n hb hx => ?_, I.base.free, fun b o e hx => ?_, I.base.tups, I.base.frzs, I.base.tbls⟩, ⟨_, hn', fun j y v' e1 e2 e3 => ?_⟩, fun y c e => ?_, I.free, I.freeC, fun p hp => ?_, tracked ⟨oL, hoL, I.free⟩ hs, by simpa using I.len⟩ ⟨_, hs, .inl rfl⟩
    · exact (hs.2 b (Nat.ne_of_lt (Nat.lt_of_lt_of_le (Heap.lt_size e) I.ok.above))).trans (I.base.keep b o e n hb hx)
    · obtain ⟨sl, e1⟩ := I.base.slot b o e n hb hx
      exact ⟨sl, (hs.2 b (Nat.ne_of_lt (Nat.lt_of_lt_of_le (Heap.lt_size e) I.ok.above))).trans e1⟩
    · obtain ⟨o', e1⟩ := I.base.there b o e hx
      exact ⟨o', (hs.2 b (Nat.ne_of_lt (Nat.lt_of_lt_of_le (Heap.lt_size e) I.ok.above))).trans e1⟩
    · by_cases hj : j = i
      · subst hj
        rw [hi] at e1; cases e1
        rw [List.getElem?_set_self hiσ] at e2
        cases e2
        exact ⟨u, r, .inl ⟨hk, by simp⟩⟩
      · rw [List.getElem?_set_ne (Ne.symm hj)] at e2
        obtain ⟨u', r', q⟩ := hl j y v' e1 e2 e3
        refine ⟨u', r', ?_⟩
        rcases q with ⟨k, e⟩ | ⟨k, c, e, z⟩
        · refine .inl ⟨k, ?_⟩
          have : y ≠ x := fun e => hj (nodup_ix hN e1 (e ▸ hi))
          simp [this, e]
        · exact .inr ⟨k, c, e, z.sameBut hs (cne y c e)⟩
    · obtain ⟨w', z⟩ := I.cell y c e
      exact ⟨w', z.sameBut hs (cne y c e)⟩
    · obtain ⟨e, n, ne, nf, d⟩ := I.pin p hp
      exact ⟨(hs.2 p.1 ne).trans e, n, ne, nf, d⟩
  · have hfn : X.fn x = true := by
      rcases hf with z | z
      · exact z
      · rw [z] at hk; cases hk
    obtain ⟨c, hc⟩ := I.ok.has x (.inl hk)
    obtain ⟨w', z⟩ := I.cell x c hc
    refine wpAny_storeName_cell I.ok.kind hk hc z (fun h' hc' hs => ?_)
    obtain ⟨oc, hoc, hocd⟩ := id z
    refine h { s with heap := h' } ⟨I.ok, I.os, I.bare, ⟨fun b o e n hb hx => ?_, fun b o e n hb hx => ?_, I.base.free, fun b o e hx => ?_, I.base.tups, I.base.frzs, I.base.tbls⟩, ⟨m, hn.sameBut hs (Ne.symm (cne x c hc)), fun j y v' e1 e2 e3 => ?_⟩, fun y c' e => ?_, I.free, I.freeC, fun p hp => ?_, tracked ⟨oc, hoc, I.freeC x c hc⟩ hs, by simpa using I.len⟩ ⟨c, hs, .inr hc⟩
    · exact (hs.2 b (Nat.ne_of_lt (Nat.lt_of_lt_of_le (Heap.lt_size e) (I.ok.cab x c hfn hc)))).trans (I.base.keep b o e n hb hx)
    · obtain ⟨sl, e1⟩ := I.base.slot b o e n hb hx
      exact ⟨sl, (hs.2 b (Nat.ne_of_lt (Nat.lt_of_lt_of_le (Heap.lt_size e) (I.ok.cab x c hfn hc)))).trans e1⟩
    · obtain ⟨o', e1⟩ := I.base.there b o e hx
      exact ⟨o', (hs.2 b (Nat.ne_of_lt (Nat.lt_of_lt_of_le (Heap.lt_size e) (I.ok.cab x c hfn hc)))).trans e1⟩
    · by_cases hj : j = i
      · subst hj
        rw [hi] at e1; cases e1
        rw [List.getElem?_set_self hiσ] at e2
        cases e2
        exact ⟨u, r, .inr ⟨.inl hk, c, hc, hc'⟩⟩
      · rw [List.getElem?_set_ne (Ne.symm hj)] at e2
        obtain ⟨u', r', q⟩ := hl j y v' e1 e2 e3
        refine ⟨u', r', ?_⟩
        rcases q with q | ⟨k, c', e, z'⟩
        · exact .inl q
        · refine .inr ⟨k, c', e, z'.sameBut hs ?_⟩
          rintro rfl
          exact hj (nodup_ix hN e1 (I.ok.inj _ _ _ e hc ▸ hi))
    · by_cases hcc : c' = c
      · subst hcc; exact ⟨_, hc'⟩
      · obtain ⟨w2, z2⟩ := I.cell y c' e
        exact ⟨w2, z2.sameBut hs hcc⟩
    · obtain ⟨e, n, ne, nf, d⟩ := I.pin p hp
      refine ⟨(hs.2 p.1 ?_).trans e, n, ne, nf, d⟩
      intro q
      rw [q, hoc] at e
      have q' : oc = p.2 := Option.some.inj e
      exact d w' (by rw [← q']; exact hocd)
theorem store_ok {M : Model} {A : Around} {E : Value → Shared → Prop} {i : Nat} {x : Str} {v : V} {u : Value} {Q : Unit → Shared → Prop} (I : Inv X pins σ H s) (hN : X.N.Nodup) (hi : X.N[i]? = some x) (hx : Loc X.env.scope x) (r : RelV v u)
    (h : ∀ s', Inv X pins (σ.set i (some v)) H s' → Q () s') (hf : X.fn x = true ∨ X.env.scope.names.lookup x = some .local := by first | exact .inl rfl | exact .inr rfl | assumption) : wpAny M A (storeName X.env x u) Q E s :=
  store_ok2 I hN hi hx r (fun s' I' _ => h s' I') hf
/-- behind a call or a block, the state as it is -/
theorem Inv.call' {s' : Shared} {ch : List Addr} (I : Inv X pins σ H s) (ho : s'.os = s.os) (u : Un (frs X.stack) ch H H' s.heap s'.heap) (hok : HOk X.prog X.w H' s'.heap) (hg : AllBare s'.gens)
    (hch : ∀ b ∈ ch, (b ∈ X.ex ∨ X.s₀.heap.objs.size ≤ b) ∧ b ≠ X.env.locals ∧ (∀ x c, X.env.cells.lookup x = some c → c ≠ b) ∧ ∀ p ∈ X.pn ++ pins, p.1 ≠ b) : Inv X pins σ H' s' := by
  obtain ⟨h', g', d', t', o'⟩ := s'
  have e : o' = s.os := ho
  subst e
  exact I.call (g' := g') (t' := t') (d' := d') u hok hg hch
end

/-! ### the judgements -/
/-- an exception: its class, its own dict's address (where it has one), the abstract heap behind it -/
abbrev XK := Value → Option Addr → Hp → Prop
abbrev St := List (Option V)
abbrev VK := V → Hp → Prop
/-- an expression's reading; a test's; an argument list's -/
abbrev TE := St → Hp → VK → Prop
abbrev TT := St → Hp → (Bool → Hp → Prop) → Prop
abbrev TA := St → Hp → (List V → Hp → Prop) → Prop
/-- what is wanted behind a statement -/
structure Ends where
  nx : St → Hp → Prop
  rt : VK
  bk : St → Hp → Prop := fun _ _ => False
  ct : St → Hp → Prop := fun _ _ => False
abbrev TS := Ends → St → Hp → Prop

def EP (X : Cx) (pins : List (Addr × Obj)) (σ : St) (Q : VK) (u : Value) (s' : Shared) : Prop := ∃ v H', Inv X pins σ H' s' ∧ RelV v u ∧ Q v H'
def TP (X : Cx) (pins : List (Addr × Obj)) (σ : St) (Q : Bool → Hp → Prop) (b : Bool) (s' : Shared) : Prop := ∃ H', Inv X pins σ H' s' ∧ Q b H'
def AP (X : Cx) (pins : List (Addr × Obj)) (σ : St) (Q : List V → Hp → Prop) (us : List Value) (s' : Shared) : Prop := ∃ vs H', Inv X pins σ H' s' ∧ Vals vs us ∧ Q vs H'
def SP (X : Cx) (pins : List (Addr × Obj)) (D : Ends) (f : Flow) (s' : Shared) : Prop :=
  match f with
  | .next => ∃ σ' H', Inv X pins σ' H' s' ∧ D.nx σ' H'
  | .brk => ∃ σ' H', Inv X pins σ' H' s' ∧ D.bk σ' H'
  | .cont => ∃ σ' H', Inv X pins σ' H' s' ∧ D.ct σ' H'
  | .ret u => ∃ v σ' H', Inv X pins σ' H' s' ∧ RelV v u ∧ D.rt v H'

def PE (X : Cx) (e : Expr) (t : TE) : Prop :=
  ∀ (pins : List (Addr × Obj)) (s : Shared) (σ : St) (H : Hp) (Q : VK), Inv X pins σ H s → t σ H Q → wpAny (model X.prog X.w) X.A (eval e X.env) (EP X pins σ Q) X.xe s
def PT (X : Cx) (e : Expr) (t : TT) : Prop :=
  ∀ (pins : List (Addr × Obj)) (s : Shared) (σ : St) (H : Hp) (Q : Bool → Hp → Prop), Inv X pins σ H s → t σ H Q → wpAny (model X.prog X.w) X.A (isTrue e X.env (eval e X.env)) (TP X pins σ Q) X.xe s
/-- a test whatever its 'whole' is (and, or) -/
def PW (X : Cx) (e : Expr) (t : TT) : Prop :=
  ∀ (whole : Sem Value) (pins : List (Addr × Obj)) (s : Shared) (σ : St) (H : Hp) (Q : Bool → Hp → Prop), Inv X pins σ H s → t σ H Q → wpAny (model X.prog X.w) X.A (isTrue e X.env whole) (TP X pins σ Q) X.xe s
theorem PW.pt {X : Cx} {e : Expr} {t : TT} (h : PW X e t) : PT X e t := h _
/-- an argument list (no star), from the left -/
def PA (X : Cx) (es : List Expr) (t : TA) : Prop :=
  ∀ (pos : Pos) (pins : List (Addr × Obj)) (s : Shared) (σ : St) (H : Hp) (Q : List V → Hp → Prop), Inv X pins σ H s → t σ H Q → wpAny (model X.prog X.w) X.A (spliced (backTo pos (starEach es X.env))) (AP X pins σ Q) X.xe s
def PS (X : Cx) (st : Stmt) (t : TS) : Prop :=
  ∀ (pins : List (Addr × Obj)) (s : Shared) (σ : St) (H : Hp) (D : Ends), Inv X pins σ H s → t D σ H → wpAny (model X.prog X.w) X.A (exec st X.env) (SP X pins D) X.xe s
def PSs (X : Cx) (st : List Stmt) (t : TS) : Prop :=
  ∀ (pins : List (Addr × Obj)) (s : Shared) (σ : St) (H : Hp) (D : Ends), Inv X pins σ H s → t D σ H → wpAny (model X.prog X.w) X.A (execs st X.env) (SP X pins D) X.xe s
/-- weaken the end -/
theorem thn {α : Type} {t : Sem α} {Q Q' : α → Shared → Prop} {M : Model} {A : Around} {E : Value → Shared → Prop} {s : Shared} (h : wpAny M A t Q E s) (hQ : ∀ a s, Q a s → Q' a s) : wpAny M A t Q' E s := wpAny_mono h hQ fun _ _ x => x
end L2

namespace L2
open PySem PySem.Spec PyProof.Rows
section
variable {X : Cx}

/-! ### names and constants -/
def tVar (i : Nat) : TE := fun σ H Q => ∃ v, σ[i]? = some (some v) ∧ Q v H
def tC (v : V) : TE := fun _ H Q => Q v H
theorem pe_var {i : Nat} {x : Str} {pos : Pos} (hN : X.N[i]? = some x) (hv : Vis X.env.scope x) (hd : (x == ("__debug__" : Str)) = false := by decide) (hcd : (x == ("__classdict__" : Str)) = false := by decide) : PE X (.Name x pos) (tVar i) := by
  intro pins s σ H Q I h
  obtain ⟨v, e, h⟩ := h
  obtain ⟨m, hn, hl⟩ := I.loc
  obtain ⟨u, r, l⟩ := hl i x v hN e hv
  have fin : EP X pins σ Q u s := ⟨v, H, I, r, h⟩
  rcases l with ⟨hk, hm⟩ | ⟨hk, c, hc, hcell⟩
  · exact wpAny_Name (wpAny_loadName_local I.ok.kind hk hn hm fin) hd
  · rcases hk with hk | hk
    · exact wpAny_Name (wpAny_loadName_cell I.ok.kind hk hc hcell fin) hd
    · exact wpAny_Name (wpAny_loadName_free I.ok.kind hk hc hcell fin hcd) hd
theorem pe_int {i j pos} : PE X (.Constant (.int i) j pos) (tC (.int i)) := fun _ _ _ H _ I h => wpAny_Constant_int ⟨.int i, H, I.tok _, ⟨_, rfl⟩, h⟩
theorem pe_bl {b j pos} : PE X (.Constant (.bool b) j pos) (tC (.bl b)) := fun _ _ _ H _ I h => Constant_bool ⟨.bl b, H, I, rfl, h⟩
theorem pe_str {x j pos} : PE X (.Constant (.str x) j pos) (tC (.str x)) := fun _ _ _ H _ I h => Calls.Constant_str ⟨.str x, H, I.tok _, ⟨_, rfl⟩, h⟩

/-- a global name of the def -/
def Gl (X : Cx) (x : Str) : Prop := X.env.kindOf x = some .globalImplicit
theorem ld_glob {E : Value → Shared → Prop} {pins : List (Addr × Obj)} {s : Shared} {σ : St} {H : Hp} {x : Str} {u : Value} {pos : Pos} {Q : Value → Shared → Prop} (I : Inv X pins σ H s) (hg : Gl X x) (hm : X.mg x = some u) (h : Q u s)
    (hd : (x == ("__debug__" : Str)) = false := by decide) : wpAny (model X.prog X.w) X.A (eval (.Name x pos) X.env) Q E s :=
  Calls.Name_function_global I.ok.kind hg (Calls.loadGlobal_global (by rw [I.ok.glob]; exact I.mod.glob.keeps I.bk) hm h) hd
theorem ld_blt {E : Value → Shared → Prop} {pins : List (Addr × Obj)} {s : Shared} {σ : St} {H : Hp} {x : Str} {u : Value} {pos : Pos} {Q : Value → Shared → Prop} (I : Inv X pins σ H s) (hg : Gl X x) (hm : X.mg x = none) (hv : bootBuiltins x = some u) (h : Q u s)
    (hn : x ≠ "__name__" := by decide) (hd : (x == ("__debug__" : Str)) = false := by decide) : wpAny (model X.prog X.w) X.A (eval (.Name x pos) X.env) Q E s := by
  obtain ⟨mb, h1, h2⟩ := I.mod.blt
  exact Calls.Name_function_global I.ok.kind hg (Calls.loadGlobal_builtin (by rw [I.ok.glob]; exact I.mod.glob.keeps I.bk) hm (by rw [I.ok.blt]; exact h1.keeps I.bk) ((h2 x hn).trans hv) h) hd
/-- a module's constant, a class, a function, as a value -/
theorem pe_glob {x : Str} {v : V} {u : Value} {pos : Pos} (hg : Gl X x) (hm : X.mg x = some u) (r : RelV v u) (hd : (x == ("__debug__" : Str)) = false := by decide) : PE X (.Name x pos) (tC v) :=
  fun _ _ _ H _ I h => ld_glob I hg hm ⟨v, H, I, r, h⟩ hd
theorem pe_bltn {x : Str} {v : V} {u : Value} {pos : Pos} (hg : Gl X x) (hm : X.mg x = none) (hv : bootBuiltins x = some u) (r : RelV v u) (hn : x ≠ "__name__" := by decide) (hd : (x == ("__debug__" : Str)) = false := by decide) : PE X (.Name x pos) (tC v) :=
  fun _ _ _ H _ I h => ld_blt I hg hm hv ⟨v, H, I, r, h⟩ hn hd

/-! ### arithmetic -/
/-- two ints -/
def t2I (ta tb : TE) (k : Int → Int → Hp → Prop) : St → Hp → Prop := fun σ H => ta σ H fun x H1 => tb σ H1 fun y H2 => ∃ i j, x = .int i ∧ y = .int j ∧ k i j H2
def tAdd (ta tb : TE) : TE := fun σ H Q => t2I ta tb (fun i j H2 => Q (.int (i + j)) H2) σ H
def tSub (ta tb : TE) : TE := fun σ H Q => t2I ta tb (fun i j H2 => Q (.int (i - j)) H2) σ H
/-- the left factor below 2^64 -/
def tMul (ta tb : TE) : TE := fun σ H Q => t2I ta tb (fun i j H2 => (-(2 ^ 64) < i ∧ i < 2 ^ 64) ∧ Q (.int (i * j)) H2) σ H
variable {a b : Expr} {ta tb : TE} {pos : Pos}
/-! ### comparisons -/
def PC (X : Cx) (op : CmpOp) (a b : Expr) (t : TE) : Prop :=
  ∀ (pins : List (Addr × Obj)) (s : Shared) (σ : St) (H : Hp) (Q : VK), Inv X pins σ H s → t σ H Q →
    wpAny (model X.prog X.w) X.A (eval a X.env) (fun v s₁ => wpAny (model X.prog X.w) X.A (eval b X.env) (fun u s₂ => wpAny (model X.prog X.w) X.A (compareOp op v u) (EP X pins σ Q) X.xe s₂) X.xe s₁) X.xe s
def tCmp (p : Int → Int → Bool) (ta tb : TE) : TE := fun σ H Q => t2I ta tb (fun i j H2 => Q (.bl (p i j)) H2) σ H
abbrev tLt : TE → TE → TE := tCmp fun i j => decide (i < j)
abbrev tLe : TE → TE → TE := tCmp fun i j => decide (i ≤ j)
abbrev tGt : TE → TE → TE := tCmp fun i j => decide (j < i)
abbrev tGe : TE → TE → TE := tCmp fun i j => decide (j ≤ i)
abbrev tEqI : TE → TE → TE := tCmp fun i j => decide (i = j)
abbrev tNeI : TE → TE → TE := tCmp fun i j => !decide (i = j)
/-- is None -/
def tIsN (ta : TE) : TE := fun σ H Q => ta σ H fun x H1 => Q (.bl (decide (x = .non))) H1
def tNotN (ta : TE) : TE := fun σ H Q => ta σ H fun x H1 => Q (.bl (!decide (x = .non))) H1
/-- a comparison as a value, as a test -/
def tB (t : TE) : TT := fun σ H Q => t σ H fun x H1 => ∃ c, x = .bl c ∧ Q c H1
/-- an expression whose value is a bool, as a test -/
theorem pt_val {e : Expr} {t : TE} (h : PE X e t) (he : ∀ whole, isTrue e X.env whole = (do let v ← whole; standAt e.pos; holding [v] (truthy v)) := by intro _; rfl) : PT X e (tB t) := by
  intro pins s σ H Q I hw
  refine isTrue_plain (thn (h pins s σ H _ I hw) fun v s1 ⟨x, H1, I1, r1, q1⟩ => ?_) (he _)
  obtain ⟨d, rfl, q⟩ := q1
  cases r1
  exact wpAny_truthy_bool ⟨H1, I1, q⟩

/-! ### and, or, not -/
variable {tA tB' : TT} {rest : List Expr}
def tAnd (t u : TT) : TT := fun σ H Q => t σ H fun c H1 => if c = true then u σ H1 Q else Q false H1
def tOr (t u : TT) : TT := fun σ H Q => t σ H fun c H1 => if c = true then Q true H1 else u σ H1 Q
def tNot (t : TT) : TT := fun σ H Q => t σ H fun c H1 => Q (!c) H1
theorem pw_and1 (ha : PT X a tA) : PW X (.BoolOp .And [a] pos) tA := by
  intro wh pins s σ H Q I h
  refine isTrue_and (thn (ha pins s σ H Q I h) fun c s1 e => ?_)
  cases c with
  | true => exact isTrue_and_nil e
  | false => exact e
theorem pw_or1 (ha : PT X a tA) : PW X (.BoolOp .Or [a] pos) tA := by
  intro wh pins s σ H Q I h
  refine isTrue_or (thn (ha pins s σ H Q I h) fun c s1 e => ?_)
  cases c with
  | false => exact isTrue_or_nil e
  | true => exact e
theorem pw_and (ha : PT X a tA) (hb : PW X (.BoolOp .And (b :: rest) pos) tB') : PW X (.BoolOp .And (a :: b :: rest) pos) (tAnd tA tB') := by
  intro wh pins s σ H Q I h
  refine isTrue_and (thn (ha pins s σ H _ I h) fun c s1 ⟨H1, I1, q1⟩ => ?_)
  cases c with
  | true => exact hb wh pins s1 σ H1 Q I1 q1
  | false => exact ⟨H1, I1, q1⟩
theorem pw_or (ha : PT X a tA) (hb : PW X (.BoolOp .Or (b :: rest) pos) tB') : PW X (.BoolOp .Or (a :: b :: rest) pos) (tOr tA tB') := by
  intro wh pins s σ H Q I h
  refine isTrue_or (thn (ha pins s σ H _ I h) fun c s1 ⟨H1, I1, q1⟩ => ?_)
  cases c with
  | true => exact ⟨H1, I1, q1⟩
  | false => exact hb wh pins s1 σ H1 Q I1 q1
theorem pt_not (ha : PT X a tA) : PT X (.UnaryOp .Not a pos) (tNot tA) := by
  intro pins s σ H Q I h
  exact isTrue_not (ha pins s σ H (fun c H1 => Q (!c) H1) I h)
/-- .. as values (bools) -/
def tAndV (ta tb : TE) : TE := fun σ H Q => ta σ H fun x H1 => ∃ c, x = .bl c ∧ if c = true then tb σ H1 Q else Q (.bl false) H1
def tOrV (ta tb : TE) : TE := fun σ H Q => ta σ H fun x H1 => ∃ c, x = .bl c ∧ if c = true then Q (.bl true) H1 else tb σ H1 Q
def tNotV (ta : TE) : TE := fun σ H Q => ta σ H fun x H1 => ∃ c, x = .bl c ∧ Q (.bl (!c)) H1
theorem pe_one {op} {t : TE} (h : PE X a t) : PE X (.BoolOp op [a] pos) t := fun pins s σ H Q I hw => BoolOp_one (h pins s σ H Q I hw)
theorem pe_and (ha : PE X a ta) (hb : PE X (.BoolOp .And (b :: rest) pos) tb) : PE X (.BoolOp .And (a :: b :: rest) pos) (tAndV ta tb) := by
  intro pins s σ H Q I h
  refine BoolOp_and (thn (ha pins s σ H _ I h) fun v s1 ⟨x, H1, I1, r1, q1⟩ => ?_)
  obtain ⟨c, rfl, q1⟩ := q1
  cases r1
  refine wpAny_truthy_bool ?_
  cases c with
  | true => exact hb pins s1 σ H1 Q I1 q1
  | false => exact ⟨.bl false, H1, I1, rfl, q1⟩
/-- a if t else b -/
def tIf (t : TT) (ta tb : TE) : TE := fun σ H Q => t σ H fun c H1 => if c = true then ta σ H1 Q else tb σ H1 Q
theorem pe_ifExp {c : Expr} (hc : PT X c tA) (ha : PE X a ta) (hb : PE X b tb) : PE X (.IfExp c a b pos) (tIf tA ta tb) := by
  intro pins s σ H Q I h
  refine wpAny_IfExp (thn (hc pins s σ H _ I h) fun d s1 ⟨H1, I1, q1⟩ => ?_)
  cases d with
  | true => exact ha pins s1 σ H1 Q I1 q1
  | false => exact hb pins s1 σ H1 Q I1 q1
end
end L2

namespace L2
open PySem PySem.Spec PyProof.Rows

/-! ### a list, a tuple that is read: tracked, frozen, or an object of the module -/
def SqL (K : PySem.W.Frag) (H : Hp) (a : Addr) (xs : List V) : Prop :=
  Rd H a (.lst xs) ∨
    ∃ (o : Obj) (its : Array Value) (n : Nat), K.lookup a = some o ∧ o.cls = .type "list" ∧ o.dict = none ∧ o.data = .seq its n ∧ its.size ≤ sizeLine ∧ Vals xs its.toList
def SqT (K : PySem.W.Frag) (H : Hp) (a : Addr) (xs : List V) : Prop :=
  Rd H a (.tup xs) ∨
    ∃ (o : Obj) (its : Array Value) (n : Nat), K.lookup a = some o ∧ o.cls = .type "tuple" ∧ o.data = .seq its n ∧ its.size ≤ sizeLine ∧ Vals xs its.toList
def absV : Value → Option V
  | .none => some .non
  | .bool b => some (.bl b)
  | .int i _ => some (.int i)
  | .str x _ => some (.str x)
  | .bytes b _ => some (.byt b)
  | .float b _ => some (.flt b)
  | .ref a => some (.ref a)
  | .type n => some (.ty n)
  | _ => none
theorem RelV.abs {x : V} {u : Value} (r : RelV x u) : absV u = some x := by
  cases x with
  | non => cases r; rfl
  | bl _ => cases r; rfl
  | int _ => obtain ⟨t, rfl⟩ := r; rfl
  | str _ => obtain ⟨t, rfl⟩ := r; rfl
  | byt _ => obtain ⟨t, rfl⟩ := r; rfl
  | flt _ => obtain ⟨t, rfl⟩ := r; rfl
  | ref _ => cases r; rfl
  | ty _ => cases r; rfl
theorem RelV.inj {x y : V} {u : Value} (r : RelV x u) (q : RelV y u) : x = y := Option.some.inj (r.abs.symm.trans q.abs)
theorem Vals.inj : ∀ {xs ys : List V} {us : List Value}, Vals xs us → Vals ys us → xs = ys
  | _, _, _, .nil, .nil => rfl
  | _, _, _, .cons r t, .cons r' t' => by rw [r.inj r', Vals.inj t t']
section
variable {X : Cx} {pins : List (Addr × Obj)} {σ : St} {H : Hp} {s : Shared} {a : Addr} {xs ys : List V}
theorem SqL.of {K : PySem.W.Frag} (h : H a = some (.lst xs)) : SqL K H a xs := .inl (.inl h)
theorem SqT.of {K : PySem.W.Frag} (h : H a = some (.tup xs)) : SqT K H a xs := .inl (.inl h)
theorem Inv.list (I : Inv X pins σ H s) (h : SqL X.K H a xs) : ∃ its : List Value, Vals xs its ∧ PlainL s.heap a its.toArray ∧ xs.length ≤ sizeLine := by
  rcases h with h | ⟨o, its, n, hk, hc, hd, hs, hz, r⟩
  · obtain ⟨z, its, n, r, e⟩ := h.ok I.hok
    exact ⟨its, r, ⟨_, n, e, rfl, rfl, rfl⟩, z⟩
  · refine ⟨its.toList, r, ⟨o, n, I.kIn a o hk, hc, hd, by simpa using hs⟩, ?_⟩
    have e := r.length
    simp only [Array.length_toList] at e
    omega
theorem Inv.tuple (I : Inv X pins σ H s) (h : SqT X.K H a xs) : ∃ its : List Value, Vals xs its ∧ IsTup s.heap a its.toArray ∧ xs.length ≤ sizeLine := by
  rcases h with h | ⟨o, its, n, hk, hc, hs, hz, r⟩
  · obtain ⟨z, its, r, p⟩ := h.ok I.hok
    exact ⟨its, r, p, z⟩
  · refine ⟨its.toList, r, ⟨o, I.kIn a o hk, hc, n, by simpa using hs⟩, ?_⟩
    have e := r.length
    simp only [Array.length_toList] at e
    omega
theorem Inv.list_inj (I : Inv X pins σ H s) (h : SqL X.K H a xs) (h' : SqL X.K H a ys) : xs = ys := by
  obtain ⟨its, r, ⟨o, n, e, _, _, d⟩, _⟩ := I.list h
  obtain ⟨its', r', ⟨o', n', e', _, _, d'⟩, _⟩ := I.list h'
  rw [e] at e'; cases e'
  rw [d] at d'
  injection d' with d1 _
  have : its = its' := by simpa using congrArg Array.toList d1
  subst this
  exact r.inj r'
theorem Inv.tuple_inj (I : Inv X pins σ H s) (h : SqT X.K H a xs) (h' : SqT X.K H a ys) : xs = ys := by
  obtain ⟨its, r, ⟨o, e, _, n, d⟩, _⟩ := I.tuple h
  obtain ⟨its', r', ⟨o', e', _, n', d'⟩, _⟩ := I.tuple h'
  rw [e] at e'; cases e'
  rw [d] at d'
  injection d' with d1 _
  have : its = its' := by simpa using congrArg Array.toList d1
  subst this
  exact r.inj r'
end

/-! ### another wish about exceptions -/
abbrev Cx.wish (X : Cx) (E : Value → Shared → Prop) : Cx := { X with xe := E }
/-- no exception leaves -/
abbrev Cx.nox (X : Cx) : Cx := X.wish fun _ _ => False
theorem Cx.Ok.wish {X : Cx} (ok : X.Ok) (E : Value → Shared → Prop) : (X.wish E).Ok :=
  ⟨ok.mod, ok.kind, ok.glob, ok.blt, ok.above, ok.inj, ok.has, ok.cab, ok.hd, ok.frames, ok.stk, ok.exf, ok.bs, ok.bsz, ok.noex, ok.exfs, ok.funs, ok.frf⟩
theorem Cx.Ok.unwish {X : Cx} {E : Value → Shared → Prop} (ok : (X.wish E).Ok) : X.Ok :=
  ⟨ok.mod, ok.kind, ok.glob, ok.blt, ok.above, ok.inj, ok.has, ok.cab, ok.hd, ok.frames, ok.stk, ok.exf, ok.bs, ok.bsz, ok.noex, ok.exfs, ok.funs, ok.frf⟩
section
variable {X : Cx} {pins : List (Addr × Obj)} {σ : St} {H : Hp} {s : Shared} {E : Value → Shared → Prop}
theorem Inv.wish (I : Inv X pins σ H s) (E : Value → Shared → Prop) : Inv (X.wish E) pins σ H s := ⟨I.ok.wish E, I.os, I.bare, I.base, I.loc, I.cell, I.free, I.freeC, I.pin, I.hok, I.len⟩
theorem Inv.unwish (I : Inv (X.wish E) pins σ H s) : Inv X pins σ H s := ⟨I.ok.unwish, I.os, I.bare, I.base, I.loc, I.cell, I.free, I.freeC, I.pin, I.hok, I.len⟩
theorem SP.unwish {D : Ends} {f : Flow} {s' : Shared} (h : SP (X.wish E) pins D f s') : SP X pins D f s' := by
  cases f with
  | next => obtain ⟨σ', H', I, q⟩ := h; exact ⟨σ', H', I.unwish, q⟩
  | brk => obtain ⟨σ', H', I, q⟩ := h; exact ⟨σ', H', I.unwish, q⟩
  | cont => obtain ⟨σ', H', I, q⟩ := h; exact ⟨σ', H', I.unwish, q⟩
  | ret u => obtain ⟨v, σ', H', I, r, q⟩ := h; exact ⟨v, σ', H', I.unwish, r, q⟩
theorem PE.nox {e : Expr} {t : TE} (h : PE X.nox e t) : PE X e t := fun pins s σ H Q I hw =>
  wpAny_mono (h pins s σ H Q (I.wish _) hw) (fun _ _ ⟨v, H', I', r, q⟩ => ⟨v, H', I'.unwish, r, q⟩) fun _ _ z => False.elim z
theorem PT.nox {e : Expr} {t : TT} (h : PT X.nox e t) : PT X e t := fun pins s σ H Q I hw =>
  wpAny_mono (h pins s σ H Q (I.wish _) hw) (fun _ _ ⟨H', I', q⟩ => ⟨H', I'.unwish, q⟩) fun _ _ z => False.elim z
theorem PSs.nox {st : List Stmt} {t : TS} (h : PSs X.nox st t) : PSs X st t := fun pins s σ H D I hw =>
  wpAny_mono (h pins s σ H D (I.wish _) hw) (fun _ _ q => q.unwish) fun _ _ z => False.elim z
end

/-! ### blocks and small statements -/
section
variable {X : Cx} {st : Stmt} {rest : List Stmt} {t u : TS} {e : Expr} {te : TE} {pos : Pos}
def tNext : TS := fun D σ H => D.nx σ H
def tSeq (t u : TS) : TS := fun D σ H => t { D with nx := u D } σ H
theorem pss_nil : PSs X [] tNext := fun _ _ σ H _ I h => wpAny_execs_nil ⟨σ, H, I, h⟩
theorem pss_cons (h1 : PS X st t) (h2 : PSs X rest u) : PSs X (st :: rest) (tSeq t u) := by
  intro pins s σ H D I h
  refine wpAny_execs_cons (thn (h1 pins s σ H { D with nx := u D } I h) fun f s1 q => ?_)
  cases f with
  | next =>
    obtain ⟨σ', H', I', q⟩ := q
    exact h2 pins s1 σ' H' D I' q
  | ret v => exact q
  | brk => exact q
  | cont => exact q
theorem pss_one (h1 : PS X st t) : PSs X [st] t := by
  intro pins s σ H D I h
  refine wpAny_execs_cons (thn (h1 pins s σ H D I h) fun f s1 q => ?_)
  cases f with
  | next => exact wpAny_execs_nil q
  | ret v => exact q
  | brk => exact q
  | cont => exact q
def tBreak : TS := fun D σ H => D.bk σ H
def tCont : TS := fun D σ H => D.ct σ H
theorem ps_continue : PS X (.Continue pos) tCont := fun _ _ σ H _ I h => wpAny_Continue ⟨σ, H, I, h⟩
/-- in a def's body nothing is shown -/
theorem Inv.quiet {pins : List (Addr × Obj)} {σ : St} {H : Hp} {s : Shared} (I : Inv X pins σ H s) : interactive X.env = false := by simp [interactive, I.ok.kind]
/-- an expression whose value is dropped -/
def tDrop (te : TE) : TS := fun D σ H => te σ H fun _ H1 => D.nx σ H1
theorem ps_expr (he : PE X e te) (hs : swapsWith e none pos.line X.env = pure false := by rfl) : PS X (.Expr e pos) (tDrop te) := by
  intro pins s σ H D I h
  exact wpAny_Expr_any (thn (he pins s σ H _ I h) fun v s1 ⟨x, H1, I1, r1, q1⟩ => ⟨σ, H1, I1, q1⟩) I.quiet hs
def tRet (te : TE) : TS := fun D σ H => te σ H D.rt
theorem ps_ret (he : PE X e te) : PS X (.Return (some e) pos) (tRet te) := by
  intro pins s σ H D I h
  exact wpAny_Return_some (thn (he pins s σ H _ I h) fun v s1 ⟨x, H1, I1, r1, q1⟩ => ⟨x, σ, H1, I1, r1, q1⟩)
def tRetN : TS := fun D _ H => D.rt .non H
def tIfS (c : TT) (t u : TS) : TS := fun D σ H => c σ H fun b H1 => if b = true then t D σ H1 else u D σ H1
theorem ps_if {c : Expr} {a b : List Stmt} {tc : TT} (hc : PT X c tc) (ha : PSs X a t) (hb : PSs X b u) : PS X (.If c a b pos) (tIfS tc t u) := by
  intro pins s σ H D I h
  refine wpAny_If (thn (hc pins s σ H _ I h) fun d s1 ⟨H1, I1, q1⟩ => ?_)
  cases d with
  | true => exact ha pins s1 σ H1 D I1 q1
  | false => exact hb pins s1 σ H1 D I1 q1
/-- code that the proof never comes to -/
def tNever : TS := fun _ _ _ => False
end

/-! ### targets -/
abbrev TG := V → St → Hp → (St → Hp → Prop) → Prop
abbrev TGs := List V → St → Hp → (St → Hp → Prop) → Prop
def PG (X : Cx) (target : Expr) (t : TG) : Prop :=
  ∀ (pins : List (Addr × Obj)) (s : Shared) (σ : St) (H : Hp) (v : V) (u : Value) (Q : St → Hp → Prop), Inv X pins σ H s → RelV v u → t v σ H Q →
    wpAny (model X.prog X.w) X.A (assign target X.env u) (fun _ s' => ∃ σ' H', Inv X pins σ' H' s' ∧ Q σ' H') X.xe s
/-- several targets, one after another -/
def PGs (X : Cx) (ts : List Expr) (t : TGs) : Prop :=
  ∀ (pins : List (Addr × Obj)) (s : Shared) (σ : St) (H : Hp) (vs : List V) (us : List Value) (Q : St → Hp → Prop), Inv X pins σ H s → Vals vs us → t vs σ H Q →
    wpAny (model X.prog X.w) X.A (assignInOrder ((assignEach ts X.env).map (·.2)) us) (fun _ s' => ∃ σ' H', Inv X pins σ' H' s' ∧ Q σ' H') X.xe s
/-- o[i] = v, by values -/
abbrev TSet := V → V → V → Hp → (Hp → Prop) → Prop
def PSet (X : Cx) (t : TSet) : Prop :=
  ∀ (pins : List (Addr × Obj)) (s : Shared) (σ : St) (H : Hp) (o i v : V) (ov iv u : Value) (Q : Hp → Prop), Inv X pins σ H s → RelV o ov → RelV i iv → RelV v u → t o i v H Q →
    wpAny (model X.prog X.w) X.A (setItem ov iv u) (fun _ s' => ∃ H', Inv X pins σ H' s' ∧ Q H') X.xe s
/-- a op= b, by values -/
abbrev TIp := V → V → Hp → VK → Prop
def PIp (X : Cx) (op : Operator) (t : TIp) : Prop :=
  ∀ (pins : List (Addr × Obj)) (s : Shared) (σ : St) (H : Hp) (x y : V) (v u : Value) (Q : VK), Inv X pins σ H s → RelV x v → RelV y u → t x y H Q →
    wpAny (model X.prog X.w) X.A (inplaceOp op v u) (EP X pins σ Q) X.xe s
section
variable {X : Cx} {pos : Pos}
def gName (i : Nat) : TG := fun v σ H Q => Q (σ.set i (some v)) H
theorem pg_name {i : Nat} {x : Str} (hN : X.N.Nodup) (hi : X.N[i]? = some x) (hx : Loc X.env.scope x) (hf : X.fn x = true ∨ X.env.scope.names.lookup x = some .local := by first | exact .inl rfl | exact .inr rfl | assumption) : PG X (.Name x pos) (gName i) := by
  intro pins s σ H v u Q I r h
  exact wpAny_assign_Name (store_ok I hN hi hx r (fun s' I' => ⟨_, H, I', h⟩) hf)
def gNil : TGs := fun vs σ H Q => vs = [] ∧ Q σ H
def gCons (t : TG) (u : TGs) : TGs := fun vs σ H Q => ∃ v r, vs = v :: r ∧ t v σ H fun σ' H' => u r σ' H' Q
/-- (a, b, ..) = a tuple of that length -/
def gTup (K : PySem.W.Frag) (n : Nat) (t : TGs) : TG := fun v σ H Q => ∃ a xs, v = .ref a ∧ SqT K H a xs ∧ xs.length = n ∧ t xs σ H Q
/-- o[i] = .. -/
def gSub (to ti : TE) (t : TSet) : TG := fun v σ H Q => to σ H fun o H1 => ti σ H1 fun i H2 => t o i v H2 fun H3 => Q σ H3
theorem pg_sub {o i : Expr} {to ti : TE} {t : TSet} (ho : PE X o to) (hi : PE X i ti) (hs : PSet X t)
    (ha : ∀ v, assign (.Subscript o i pos) X.env v = (do
      let ov ← holding [v] (eval o X.env)
      let iv ← holding [v, ov] (eval i X.env)
      standAt pos
      holding [v, ov, iv] (setItem ov iv v)
      release [v, ov, iv] []) := by intro _; rfl) : PG X (.Subscript o i pos) (gSub to ti t) := by
  intro pins s σ H v u Q I r h
  rw [ha]
  refine wpAny_bind (wpAny_holding (thn (ho pins s σ H _ I h) fun ov s1 ⟨x, H1, I1, r1, q1⟩ => ?_))
  refine wpAny_bind (wpAny_holding (thn (hi pins s1 σ H1 _ I1 q1) fun iv s2 ⟨y, H2, I2, r2, q2⟩ => ?_))
  refine wpAny_bind (wpAny_standAt (wpAny_bind (wpAny_holding (thn (hs pins s2 σ H2 x y v ov iv u _ I2 r1 r2 r q2) fun _ s3 ⟨H3, I3, q3⟩ => ?_))))
  exact wpAny_release ⟨σ, H3, I3, q3⟩
/-- target = value -/
def tAsg (te : TE) (g : TG) : TS := fun D σ H => te σ H fun x H1 => g x σ H1 D.nx
theorem ps_asg {tg e : Expr} {te : TE} {g : TG} (he : PE X e te) (hg : PG X tg g) (hs : swapsWithSole [tg] e pos.line X.env = pure false := by rfl) (hw : swappedStores [tg] e X.env = pure none := by rfl)
    (h1 : (assignEach [tg] X.env).map (·.2) = [assign tg X.env] := by rfl) : PS X (.Assign [tg] e pos) (tAsg te g) := by
  intro pins s σ H D I h
  refine wpAny_Assign_stores (thn (he pins s σ H _ I h) fun v s1 ⟨x, H1, I1, r1, q1⟩ => ?_) hs hw
  rw [h1]
  exact thn (hg pins s1 σ H1 x v _ I1 r1 q1) fun _ s2 q => q
/-- name = value -/
theorem ps_set {i : Nat} {x : Str} {e : Expr} {te : TE} {pos' : Pos} (hN : X.N.Nodup) (hi : X.N[i]? = some x) (hx : Loc X.env.scope x) (he : PE X e te) (hs : swapsWith e (some (.Name x pos')) pos.line X.env = pure false := by rfl) (hf : X.fn x = true ∨ X.env.scope.names.lookup x = some .local := by first | exact .inl rfl | exact .inr rfl | assumption) :
    PS X (.Assign [.Name x pos'] e pos) (tAsg te (gName i)) := by
  intro pins s σ H D I h
  refine wpAny_Assign_Name (thn (he pins s σ H _ I h) fun v s1 ⟨y, H1, I1, r1, q1⟩ => ?_) hs
  exact store_ok I1 hN hi hx r1 (fun s2 I2 => ⟨_, H1, I2, q1⟩) hf
/-- a, b = x, y with plain local names: stored from the right; the pair itself is not tracked (the opening rows as in PyProof/Rows/TupAssign.lean:23) -/
def tPar (i j : Nat) (ta : TA) : TS := fun D σ H => ta σ H fun vs H1 => ∃ v w, vs = [v, w] ∧ D.nx ((σ.set i (some v)).set j (some w)) H1
theorem ps_par {i j : Nat} {x y : Str} {a b : Expr} {ta : TA} {px py pt : Pos} {kt k2 pt2} (hc : X.calm = true) (hN : X.N.Nodup) (hi : X.N[i]? = some x) (hj : X.N[j]? = some y) (hij : i ≠ j)
    (hx : X.env.scope.names.lookup x = some .local) (hy : X.env.scope.names.lookup y = some .local) (ha : PA X [a, b] ta)
    (hw : swappedStores [.Tuple [.Name x px, .Name y py] kt pt] (.Tuple [a, b] k2 pt2) X.env = pure (some [x, y]))
    (hs : swapsWithSole [.Tuple [.Name x px, .Name y py] kt pt] (.Tuple [a, b] k2 pt2) pos.line X.env = pure false := by rfl) :
    PS X (.Assign [.Tuple [.Name x px, .Name y py] kt pt] (.Tuple [a, b] k2 pt2) pos) (tPar i j ta) := by
  intro pins s σ H D I h
  rw [exec_Assign_arm]
  refine wpAny_bind (wpAny_standAt ?_)
  rw [hs]
  refine wpAny_bind (wpAny_pure ?_)
  rw [if_neg (by decide)]
  refine wpAny_bind (Tuple_ (thn (ha _ pins s σ H _ I h) fun us s1 ⟨vs, H1, I1, r1, q1⟩ => ?_))
  obtain ⟨v, w, e1, q1⟩ := q1
  subst e1
  obtain ⟨u1, u2, rfl, rv, rw'⟩ : ∃ u1 u2, us = [u1, u2] ∧ RelV v u1 ∧ RelV w u2 := by
    cases r1 with
    | cons p q =>
      cases q with
      | cons p' q' =>
        cases q'
        exact ⟨_, _, rfl, p, p'⟩
  refine wpAny_newObj_type ?_ (by show 2 ≤ sizeLine; decide)
  have I2 : Inv X pins σ H1 { s1 with heap := s1.heap.push { cls := .type "tuple", data := .seq [u1, u2].toArray } } := I1.kept (t' := s1.toks) fun b o e => Heap.get?_push_of_some _ e
  rw [hw]
  refine wpAny_bind (wpAny_pure ?_)
  show wpAny (model X.prog X.w) X.A (do rule "assign.swapped-stores"; let items ← unpackItems (.ref s1.heap.objs.size) 2 none; assignInOrder [fun v => bindName X.env y v, fun v => bindName X.env x v] items.reverse; pure Flow.next) _ _ _
  refine wpAny_bind (wpAny_rule (wpAny_bind (unpackItems_tuple (items := #[u1, u2]) (I.ok.hd hc) (IsTup.new s1.heap _) fun h' hx' => ?_)))
  have I3 := I2.kept (h' := h') (t' := s1.toks) fun b o e => hx' b o (Nat.ne_of_lt (Heap.lt_size e)) e
  show wpAny _ _ (assignInOrder [fun v => bindName X.env y v, fun v => bindName X.env x v] [u2, u1] >>= fun _ => pure Flow.next) _ _ _
  refine wpAny_bind (assignInOrder_cons (wpAny_bindName (store_ok I3 hN hj (.inl hy) rw' (fun s2 I4 => ?_) (.inr hy))))
  refine assignInOrder_cons (wpAny_bindName (store_ok I4 hN hi (.inl hx) rv (fun s3 I5 => assignInOrder_nil (wpAny_pure ?_)) (.inr hx)))
  rw [List.set_comm _ _ (Ne.symm hij)] at I5
  exact ⟨_, H1, I5, q1⟩
/-- name op= e -/
def tAug (i : Nat) (te : TE) (ti : TIp) : TS := fun D σ H => ∃ x, σ[i]? = some (some x) ∧ te σ H fun y H1 => ti x y H1 fun z H2 => D.nx (σ.set i (some z)) H2
/-- o[i] op= e -/
def tAugS (to ti te : TE) (tget : V → V → Hp → VK → Prop) (tip : TIp) (tset : TSet) : TS := fun D σ H => to σ H fun o H1 => ti σ H1 fun i H2 => tget o i H2 fun x H3 => te σ H3 fun y H4 => tip x y H4 fun z H5 => tset o i z H5 fun H6 => D.nx σ H6
/-- o[i], by values -/
def PGet (X : Cx) (t : V → V → Hp → VK → Prop) : Prop :=
  ∀ (pins : List (Addr × Obj)) (s : Shared) (σ : St) (H : Hp) (o i : V) (ov iv : Value) (Q : VK), Inv X pins σ H s → RelV o ov → RelV i iv → t o i H Q →
    wpAny (model X.prog X.w) X.A (getItem ov iv) (EP X pins σ Q) X.xe s
/-- ints -/
def ipI (f : Int → Int → Int) : TIp := fun x y H Q => ∃ i j, x = .int i ∧ y = .int j ∧ Q (.int (f i j)) H
end

/-! ### while -/
section
variable {X : Cx} {pos : Pos}
/-- the invariant W with its measure -/
def tWhile (c : TT) (tb : TS) : TS := fun D σ H => ∃ W : Nat → St → Hp → Prop, (∃ m, W m σ H) ∧ ∀ m σ H, W m σ H →
  c σ H fun b H1 => if b = true then ∃ N : St → Hp → Prop, (∀ σ' H', N σ' H' → ∃ m', m' < m ∧ W m' σ' H') ∧ tb { D with nx := N, ct := N, bk := D.nx } σ H1 else D.nx σ H1
theorem ps_while {c : Expr} {body : List Stmt} {tc : TT} {tb : TS} (hp : PassesOwn (model X.prog X.w) X.A X.env X.xe) (hc : PT X c tc) (hb : PSs X body tb) : PS X (.While c body [] pos) (tWhile tc tb) := by
  intro pins s σ H D I h
  obtain ⟨W, ⟨m0, w0⟩, turn⟩ := h
  refine wpAny_While (codeAny_whileLoop (fun n s' => ∃ σ' H', Inv X pins σ' H' s' ∧ W n σ' H') ?_ m0 ⟨σ, H, I, w0⟩)
  rintro n s1 ⟨σ1, H1, I1, w1⟩
  refine wpAny_passesOwn hp (thn (hc pins s1 σ1 H1 _ I1 (turn n σ1 H1 w1)) fun b s2 ⟨H2, I2, q2⟩ => ?_)
  cases b with
  | true =>
    obtain ⟨N, hN, q2⟩ := q2
    rw [if_pos rfl]
    refine wpAny_passesOwn hp (thn (hb pins s2 σ1 H2 _ I2 q2) fun f s3 q3 => ?_)
    cases f with
    | next =>
      obtain ⟨σ3, H3, I3, n3⟩ := q3
      obtain ⟨m', hm, w3⟩ := hN σ3 H3 n3
      exact ⟨m', hm, σ3, H3, I3, w3⟩
    | cont =>
      obtain ⟨σ3, H3, I3, n3⟩ := q3
      obtain ⟨m', hm, w3⟩ := hN σ3 H3 n3
      exact ⟨m', hm, σ3, H3, I3, w3⟩
    | brk => exact q3
    | ret v => exact q3
  | false =>
    rw [if_neg Bool.false_ne_true]
    exact wpAny_execs_nil ⟨σ1, H2, I2, q2⟩
end

/-! ### what a loop or a comprehension walks -/
/-- at turn i: it yields x (the heap may grow), or it stops -/
structure It where
  go : Nat → Hp → Prop
  yld : Nat → Hp → V → Hp → Prop
  stop : Nat → Hp → Prop
/-- the iterator's own objects may turn: they are not the frame's, not pinned, younger than the entry (or a comprehension's own) -/
def FpOk (X : Cx) (pins : List (Addr × Obj)) (H : Hp) (b : Addr) : Prop :=
  H b = none ∧ b ≠ X.env.locals ∧ b ∉ X.fs ∧ (b ∈ X.ex ∨ X.s₀.heap.objs.size ≤ b) ∧ (∀ x c, X.env.cells.lookup x = some c → c ≠ b) ∧ ∀ p ∈ X.pn ++ pins, p.1 ≠ b
theorem Inv.fpOk {X : Cx} {pins : List (Addr × Obj)} {σ : St} {H H' : Hp} {s : Shared} {b : Addr} (I : Inv X pins σ H s) (hb : s.heap.objs.size ≤ b) (hn : H' b = none) : FpOk X pins H' b := by
  refine ⟨hn, Nat.ne_of_gt (Nat.lt_of_lt_of_le I.lt hb), I.nofs hb, .inr (Nat.le_trans I.sz hb), fun x c e z => ?_, fun p hp z => ?_⟩
  · obtain ⟨v, q⟩ := I.cell x c e
    exact absurd (Nat.lt_of_lt_of_le q.lt (by rw [z]; exact hb)) (Nat.lt_irrefl _)
  · exact absurd (Nat.lt_of_lt_of_le (Heap.lt_size (I.pin p hp).1) (by rw [z]; exact hb)) (Nat.lt_irrefl _)
structure Turn (P : Program) (w : World) (K : PySem.W.Frag) (tg : Expr) (J : It) (fp : List Addr) (it : Addr) (tn : Nat → Heap → Prop) : Prop where
  mem : it ∈ fp
  obj : ∀ i h, tn i h → ∀ b ∈ fp, ∃ o, h.get? b = some o ∧ ∀ v, o.data ≠ .cell v
  keep : ∀ i h h', tn i h → (∀ b ∈ fp, ∀ o, h.get? b = some o → h'.get? b = some o) → tn i h'
  item : ∀ (X : Cx), X.prog = P → X.w = w → X.K = K → X.calm = true → ∀ (i : Nat) (pins : List (Addr × Obj)) (s : Shared) (σ : St) (H : Hp) (E : Value → Shared → Prop), Inv X pins σ H s → (∀ b ∈ fp, FpOk X pins H b) → tn i s.heap → J.go i H →
    wpAny (model P w) X.A (pyNext (.ref it)) (fun r s1 => ∃ u, r = some u ∧
      wpAny (model P w) X.A (letOwnedTupleGo tg (.ref it) u) (fun _ s2 => ∃ x H', Inv X pins σ H' s2 ∧ RelV x u ∧ J.yld i H x H' ∧ tn (i + 1) s2.heap ∧ ∀ b ∈ fp, H' b = none) E s1) E s
  done : ∀ (X : Cx), X.prog = P → X.w = w → X.K = K → X.calm = true → ∀ (i : Nat) (pins : List (Addr × Obj)) (s : Shared) (σ : St) (H : Hp) (E : Value → Shared → Prop), Inv X pins σ H s → (∀ b ∈ fp, FpOk X pins H b) → tn i s.heap → J.stop i H →
    wpAny (model P w) X.A (pyNext (.ref it)) (fun r s1 => r = none ∧ Inv X pins σ H s1) E s
  self : ∀ (A : Around) (i : Nat) (s : Shared) (Q : Value → Shared → Prop) (E : Value → Shared → Prop), tn i s.heap → Q (.ref it) s → wpAny (model P w) A (pyIter (.ref it)) Q E s
abbrev TI := St → Hp → (It → Hp → Prop) → Prop
/-- an iterator has come -/
def PIE (X : Cx) (pins : List (Addr × Obj)) (σ : St) (tg : Expr) (R : It → Hp → Prop) (itv : Value) (s2 : Shared) : Prop :=
  ∃ (it : Addr) (fp : List Addr) (tn : Nat → Heap → Prop) (J : It) (H' : Hp), itv = .ref it ∧ Inv X pins σ H' s2 ∧ Turn X.prog X.w X.K tg J fp it tn ∧ tn 0 s2.heap ∧ (∀ b ∈ fp, FpOk X pins H' b) ∧ R J H'
def PI (X : Cx) (tg iter : Expr) (wi : TI) : Prop :=
  ∀ (pins : List (Addr × Obj)) (s : Shared) (σ : St) (H : Hp) (R : It → Hp → Prop), Inv X pins σ H s → wi σ H R →
    wpAny (model X.prog X.w) X.A (eval iter X.env) (fun v s1 => wpAny (model X.prog X.w) X.A (pyIter v) (PIE X pins σ tg R) X.xe s1) X.xe s

/-- the step ahead of the store is nothing for an iterator that keeps no tuple -/
theorem go_of {M : Model} {A : Around} {E : Value → Shared → Prop} {s : Shared} {tg : Expr} {it : Addr} {u : Value} {o : Obj} {n : String} {vs : Array Value} {Q : Unit → Shared → Prop} (ho : s.heap.get? it = some o) (hc : o.cls = .type n) (hd : o.data = .fields vs)
    (hn : ["enumerate", "zip", "dict_itemiterator", "dict_reverseitemiterator", "odict_iterator", "itertools.zip_longest", "itertools.pairwise"].contains n = false) (hQ : Q () s) : wpAny M A (letOwnedTupleGo tg (.ref it) u) Q E s := by
  unfold letOwnedTupleGo
  cases tg <;> first
    | exact wpAny_pure hQ
    | (cases u <;> first
        | exact wpAny_pure hQ
        | (refine wpAny_bind (wpAny_load ho ?_)
           rw [hc, hd]
           show wpAny M A (if (["enumerate", "zip", "dict_itemiterator", "dict_reverseitemiterator", "odict_iterator", "itertools.zip_longest", "itertools.pairwise"].contains n && vs[0]? == some (rawInt _)) = true then _ else _) Q E s
           rw [if_neg (by intro h; rw [hn, Bool.false_and] at h; cases h)]
           exact wpAny_pure hQ))

/-- the list at a, as it stands at each turn (a loop may append to it) -/
def Itl (K : PySem.W.Frag) (a : Addr) : It :=
  ⟨fun i H => ∃ xs x, SqL K H a xs ∧ xs[i]? = some x, fun i H x H' => H' = H ∧ ∀ xs, SqL K H a xs → xs[i]? = some x, fun i H => ∃ xs, SqL K H a xs ∧ xs.length ≤ i⟩
def Itt (K : PySem.W.Frag) (a : Addr) : It :=
  ⟨fun i H => ∃ xs x, SqT K H a xs ∧ xs[i]? = some x, fun i H x H' => H' = H ∧ ∀ xs, SqT K H a xs → xs[i]? = some x, fun i H => ∃ xs, SqT K H a xs ∧ xs.length ≤ i⟩
/-- lo, lo + 1, .. (n of them) -/
def Itr (lo : Int) (n : Nat) : It := ⟨fun i _ => i < n, fun i H x H' => H' = H ∧ x = .int (lo + i), fun i _ => n ≤ i⟩
theorem turn_list {P : Program} {w : World} {K : PySem.W.Frag} {tg : Expr} (a it : Addr) : Turn P w K tg (Itl K a) [it] it (fun i h => h.IsListIter it a i) where
  mem := by simp
  obj := fun i h st b hb => by
    have e : b = it := by simpa using hb
    subst e
    obtain ⟨o, e, c, d⟩ := st
    exact ⟨o, e, fun v z => by rw [d] at z; cases z⟩
  keep := fun i h h' st k => st.at fun o e => k it (by simp) o e
  item := by
    intro X hP hw hK hc i pins s σ H E I hf st hg
    subst hP hw hK
    obtain ⟨xs, x, hq, hx⟩ := hg
    obtain ⟨its, rv, p, hz⟩ := I.list hq
    obtain ⟨u, hu, ru⟩ := rv.get hx
    obtain ⟨f0, f1, f2, f3, f4, f5⟩ := hf it (by simp)
    refine wpAny_pyNext_list_item st p.isList (x := u) (by simpa using hu) fun h' st' sb => ?_
    have I1 : Inv X pins σ H { s with heap := h' } := I.turned (t' := s.toks) (fun b o hb e => (sb.2 b hb).trans e) f0 f1 f3 f4 f5
    obtain ⟨o, e, c, d⟩ := id st'
    exact ⟨u, rfl, go_of (s := { s with heap := h' }) e c d (by decide) ⟨x, H, I1, ru, ⟨rfl, fun ys hy => by rw [I.list_inj hy hq]; exact hx⟩, st', fun b hb => (hf b hb).1⟩⟩
  done := by
    intro X hP hw hK hc i pins s σ H E I hf st hg
    subst hP hw hK
    obtain ⟨xs, hq, hx⟩ := hg
    obtain ⟨its, rv, p, hz⟩ := I.list hq
    obtain ⟨f0, f1, f2, f3, f4, f5⟩ := hf it (by simp)
    have hl := rv.length
    exact wpAny_pyNext_list_end (I.ok.hd hc) st p.isList (by simp; omega) fun h' eb => ⟨rfl, I.turned (t' := s.toks) (fun b o hb e => eb b o hb e) f0 f1 f3 f4 f5⟩
  self := fun _ _ _ _ _ st h => wpAny_pyIter_listiter st h
theorem turn_tuple {P : Program} {w : World} {K : PySem.W.Frag} {tg : Expr} (a it : Addr) : Turn P w K tg (Itt K a) [it] it (fun i h => h.IsTupleIter it a i) where
  mem := by simp
  obj := fun i h st b hb => by
    have e : b = it := by simpa using hb
    subst e
    obtain ⟨o, e, c, d⟩ := st
    exact ⟨o, e, fun v z => by rw [d] at z; cases z⟩
  keep := fun i h h' st k => st.at fun o e => k it (by simp) o e
  item := by
    intro X hP hw hK hc i pins s σ H E I hf st hg
    subst hP hw hK
    obtain ⟨xs, x, hq, hx⟩ := hg
    obtain ⟨its, rv, p, hz⟩ := I.tuple hq
    obtain ⟨u, hu, ru⟩ := rv.get hx
    obtain ⟨f0, f1, f2, f3, f4, f5⟩ := hf it (by simp)
    refine wpAny_pyNext_tuple_item st (show s.heap.IsTuple a its.toArray from p) (x := u) (by simpa using hu) fun h' st' sb => ?_
    have I1 : Inv X pins σ H { s with heap := h' } := I.turned (t' := s.toks) (fun b o hb e => (sb.2 b hb).trans e) f0 f1 f3 f4 f5
    obtain ⟨o, e, c, d⟩ := id st'
    exact ⟨u, rfl, go_of (s := { s with heap := h' }) e c d (by decide) ⟨x, H, I1, ru, ⟨rfl, fun ys hy => by rw [I.tuple_inj hy hq]; exact hx⟩, st', fun b hb => (hf b hb).1⟩⟩
  done := by
    intro X hP hw hK hc i pins s σ H E I hf st hg
    subst hP hw hK
    obtain ⟨xs, hq, hx⟩ := hg
    obtain ⟨its, rv, p, hz⟩ := I.tuple hq
    obtain ⟨f0, f1, f2, f3, f4, f5⟩ := hf it (by simp)
    have hl := rv.length
    exact wpAny_pyNext_tuple_end (I.ok.hd hc) st (show s.heap.IsTuple a its.toArray from p) (by simp; omega) fun h' eb => ⟨rfl, I.turned (t' := s.toks) (fun b o hb e => eb b o hb e) f0 f1 f3 f4 f5⟩
  self := fun _ _ _ _ _ st h => wpAny_pyIter_tupleiter st h
theorem turn_range {P : Program} {w : World} {K : PySem.W.Frag} {tg : Expr} (it : Addr) (lo : Int) (n : Nat) : Turn P w K tg (Itr lo n) [it] it (fun i h => IsRangeIter h it (lo + (i : Nat) * 1) ((n : Int) - (i : Nat)) 1) where
  mem := by simp
  obj := fun i h st b hb => by
    have e : b = it := by simpa using hb
    subst e
    exact ⟨_, st, fun v z => by
      have z' : Data.fields _ = Data.cell v := z
      cases z'⟩
  keep := fun i h h' st k => k it (by simp) _ st
  item := by
    intro X hP hw hK hc i pins s σ H E I hf st hg
    subst hP hw hK
    obtain ⟨f0, f1, f2, f3, f4, f5⟩ := hf it (by simp)
    have W := Walks.range (prog := X.prog) (w := X.w) (I.ok.hd hc) it lo 1 n
    refine W.item i s _ _ hg st fun v h' tk hv st' kk => ?_
    obtain ⟨t, rfl⟩ := hv
    have I1 : Inv X pins σ H { s with heap := h', toks := tk } := I.turned (fun b o hb e => kk b o (by simpa using hb) e) f0 f1 f3 f4 f5
    refine ⟨_, rfl, go_of (s := { s with heap := h', toks := tk }) (n := "range_iterator") st' rfl rfl (by decide) ⟨.int (lo + i), H, I1, ⟨t, ?_⟩, ⟨rfl, rfl⟩, st', fun b hb => (hf b hb).1⟩⟩
    rw [Int.mul_one]
  done := by
    intro X hP hw hK hc i pins s σ H E I hf st hg
    subst hP hw hK
    obtain ⟨f0, f1, f2, f3, f4, f5⟩ := hf it (by simp)
    exact wpAny_pyNext_range_end (I.ok.hd hc) st (by have : n ≤ i := hg; omega) fun h' eb => ⟨rfl, I.turned (t' := s.toks) (fun b o hb e => eb b o hb e) f0 f1 f3 f4 f5⟩
  self := fun _ _ _ _ _ st h => wpAny_pyIter_rangeiter st h
end L2

namespace L2
open PySem PySem.Spec PyProof.Rows
section
variable {X : Cx} {tg : Expr}
def iList (K : PySem.W.Frag) (tl : TE) : TI := fun σ H R => tl σ H fun x H1 => ∃ a, x = .ref a ∧ (∃ xs, SqL K H1 a xs) ∧ R (Itl K a) H1
def iTup (K : PySem.W.Frag) (tl : TE) : TI := fun σ H R => tl σ H fun x H1 => ∃ a, x = .ref a ∧ (∃ xs, SqT K H1 a xs) ∧ R (Itt K a) H1
theorem pi_list {l : Expr} {tl : TE} (hl : PE X l tl) : PI X tg l (iList X.K tl) := by
  intro pins s σ H R I h
  refine thn (hl pins s σ H _ I h) fun v s1 ⟨x, H1, I1, r1, q1⟩ => ?_
  obtain ⟨a, e, ⟨xs, hq⟩, q⟩ := q1
  subst e
  cases r1
  obtain ⟨its, rv, p, hz⟩ := I1.list hq
  refine wpAny_pyIter_list p.isList ?_
  refine ⟨s1.heap.objs.size, [s1.heap.objs.size], _, _, H1, rfl, I1.kept (t' := s1.toks) fun b o e => Heap.get?_push_of_some _ e, turn_list a _, ⟨_, Heap.get?_push_size _ rfl, rfl, rfl⟩, fun b hb => ?_, q⟩
  have e : b = s1.heap.objs.size := by simpa using hb
  subst e
  exact I1.fpOk (Nat.le_refl _) (I1.hok.fresh (Nat.le_refl _))
theorem pi_tup {l : Expr} {tl : TE} (hl : PE X l tl) : PI X tg l (iTup X.K tl) := by
  intro pins s σ H R I h
  refine thn (hl pins s σ H _ I h) fun v s1 ⟨x, H1, I1, r1, q1⟩ => ?_
  obtain ⟨a, e, ⟨xs, hq⟩, q⟩ := q1
  subst e
  cases r1
  obtain ⟨its, rv, p, hz⟩ := I1.tuple hq
  refine wpAny_pyIter_tuple (show s1.heap.IsTuple a its.toArray from p) ?_
  refine ⟨s1.heap.objs.size, [s1.heap.objs.size], _, _, H1, rfl, I1.kept (t' := s1.toks) fun b o e => Heap.get?_push_of_some _ e, turn_tuple a _, ⟨_, Heap.get?_push_size _ rfl, rfl, rfl⟩, fun b hb => ?_, q⟩
  have e : b = s1.heap.objs.size := by simpa using hb
  subst e
  exact I1.fpOk (Nat.le_refl _) (I1.hok.fresh (Nat.le_refl _))
/-- a range object just made, walked -/
theorem range_it {pins : List (Addr × Obj)} {σ : St} {H : Hp} {s : Shared} {R : It → Hp → Prop} {E : Value → Shared → Prop} {lo hi : Int} {t u v : Tok} {tk : Nat} (I : Inv X pins σ H s) (h1 : -(2 ^ 62) ≤ lo) (h2 : lo < 2 ^ 62) (h3 : -(2 ^ 62) ≤ hi) (h4 : hi < 2 ^ 62)
    (q : R (Itr lo (hi - lo).toNat) H) : wpAny (model X.prog X.w) X.A (pyIter (.ref s.heap.objs.size)) (PIE X pins σ tg R) E { s with heap := s.heap.push { cls := .type "range", data := .fields #[.int lo t, .int hi u, .int 1 v] }, toks := tk } := by
  refine wpAny_pyIter_range (IsRange.new ..) (small_one h1 h2 h3 h4) ?_
  have I1 : Inv X pins σ H { s with heap := s.heap.push { cls := .type "range", data := .fields #[.int lo t, .int hi u, .int 1 v] }, toks := tk } := I.kept fun b o e => Heap.get?_push_of_some _ e
  refine ⟨(s.heap.push { cls := .type "range", data := .fields #[.int lo t, .int hi u, .int 1 v] }).objs.size, [(s.heap.push { cls := .type "range", data := .fields #[.int lo t, .int hi u, .int 1 v] }).objs.size], _, _, H, rfl,
    I1.kept (t' := tk) fun b o e => Heap.get?_push_of_some _ e, turn_range _ lo (hi - lo).toNat, ?_, fun b hb => ?_, q⟩
  · have e1 : lo + ((0 : Nat) : Int) * 1 = lo := by simp
    have e2 : (((hi - lo).toNat : Nat) : Int) - ((0 : Nat) : Int) = Builtin.Range.rangeSize lo hi 1 := by rw [rangeSize_one]; split <;> omega
    show IsRangeIter _ _ (lo + ((0 : Nat) : Int) * 1) ((((hi - lo).toNat : Nat) : Int) - ((0 : Nat) : Int)) 1
    rw [e1, e2]
    exact Heap.get?_push_size _ rfl
  · have e : b = (s.heap.push { cls := .type "range", data := .fields #[.int lo t, .int hi u, .int 1 v] }).objs.size := by simpa using hb
    subst e
    exact I1.fpOk (Nat.le_refl _) (I1.hok.fresh (Nat.le_refl _))
def iRng1 (ta : TA) : TI := fun σ H R => ta σ H fun vs H1 => ∃ j : Int, vs = [.int j] ∧ -(2 ^ 62) ≤ j ∧ j < 2 ^ 62 ∧ R (Itr 0 j.toNat) H1
def iRng2 (ta : TA) : TI := fun σ H R => ta σ H fun vs H1 => ∃ i j : Int, vs = [.int i, .int j] ∧ (-(2 ^ 62) ≤ i ∧ i < 2 ^ 62 ∧ -(2 ^ 62) ≤ j ∧ j < 2 ^ 62) ∧ R (Itr i (j - i).toNat) H1
theorem pi_range1 {a : Expr} {ta : TA} {p pos : Pos} (hg : Gl X "range") (hm : X.mg "range" = none) (ha : PA X [a] ta) (hs : starEach [a] X.env = [(false, eval a X.env)] := by rfl) : PI X tg (.Call (.Name "range" p) [a] [] pos) (iRng1 ta) := by
  intro pins s σ H R I h
  refine Call_ (ld_blt I hg hm boot_range (PyProof.Rows.callWith_type1 (thn (ha pos pins s σ H _ I h) fun us s1 ⟨vs, H1, I1, r1, q1⟩ => ?_) hs rfl))
  obtain ⟨j, e, q1, q2, q⟩ := q1
  subst e
  cases r1 with
  | cons r rr =>
    cases rr
    obtain ⟨t, rfl⟩ := r
    exact call_range_1 (range_it I1 (by omega) (by omega) q1 q2 (by simpa using q))
/-! ### for -/
/-- W: the invariant by the turn and a measure; N: what the body is to reach -/
def tFor (wi : TI) (g : TG) (tb : TS) : TS := fun D σ H => wi σ H fun J H1 => ∃ W : Nat → Nat → St → Hp → Prop, (∃ m, W 0 m σ H1) ∧ ∀ i m σ H, W i m σ H →
  (J.stop i H ∧ D.nx σ H) ∨ (J.go i H ∧ ∃ N : St → Hp → Prop, (∀ σ' H', N σ' H' → ∃ m', m' < m ∧ W (i + 1) m' σ' H') ∧ ∀ x H', J.yld i H x H' → g x σ H' fun σ2 H2 => tb { D with nx := N, ct := N, bk := D.nx } σ2 H2)
/-- the records at fp as they stand -/
def pinsAt (fp : List Addr) (h : Heap) : List (Addr × Obj) := fp.filterMap fun b => (h.get? b).map fun o => (b, o)
theorem mem_pinsAt {fp : List Addr} {h : Heap} {b : Addr} {o : Obj} (hb : b ∈ fp) (e : h.get? b = some o) : (b, o) ∈ pinsAt fp h := List.mem_filterMap.mpr ⟨b, hb, by rw [e]; rfl⟩
theorem of_pinsAt {fp : List Addr} {h : Heap} {p : Addr × Obj} (hp : p ∈ pinsAt fp h) : p.1 ∈ fp ∧ h.get? p.1 = some p.2 := by
  obtain ⟨b, hb, e⟩ := List.mem_filterMap.mp hp
  cases q : h.get? b with
  | none => rw [q] at e; cases e
  | some o =>
    rw [q] at e
    have e' : (b, o) = p := Option.some.inj e
    subst e'
    exact ⟨hb, q⟩
theorem Inv.pinned {pins : List (Addr × Obj)} {σ : St} {H : Hp} {s : Shared} {fp : List Addr} (I : Inv X pins σ H s) (hf : ∀ b ∈ fp, FpOk X pins H b) (ho : ∀ b ∈ fp, ∃ o, s.heap.get? b = some o ∧ ∀ v, o.data ≠ .cell v) : Inv X (pins ++ pinsAt fp s.heap) σ H s :=
  I.pins_of fun p hp => (List.mem_append.mp hp).elim (fun z => I.pin p (List.mem_append_right _ z)) fun z => by
    obtain ⟨hb, e⟩ := of_pinsAt z
    obtain ⟨f0, f1, f2, _⟩ := hf p.1 hb
    obtain ⟨o, e', d⟩ := ho p.1 hb
    rw [e] at e'; cases e'
    exact ⟨e, f0, f1, f2, d⟩
theorem Inv.unpinned {pins pl : List (Addr × Obj)} {σ : St} {H : Hp} {s : Shared} (I : Inv X (pins ++ pl) σ H s) : Inv X pins σ H s := I.pins_of fun p hp => I.pin p (List.mem_append_right _ (List.mem_append_left _ hp))
theorem ps_for {iter : Expr} {body : List Stmt} {wi : TI} {g : TG} {tb : TS} {pos : Pos} (hp : PassesOwn (model X.prog X.w) X.A X.env X.xe) (hc : X.calm = true) (hi : PI X tg iter wi) (hg : PG X tg g) (hb : PSs X body tb)
    (hs : ∀ x, foldedSetIterable iter X.env x = pure x := by intro _; rfl) : PS X (.For tg iter body [] pos) (tFor wi g tb) := by
  intro pins s σ H D I h
  refine wpAny_For (thn (hi pins s σ H _ I h) fun v s1 h1 => thn h1 fun itv s2 h2 => ?_) hs
  obtain ⟨it, fp, tn, J, H2, e, I2, T, st2, f2, W, ⟨m0, w0⟩, turn⟩ := h2
  subst e
  -- what stays true of the iterator's objects through the loop
  have stat : ∀ {H' : Hp}, (∀ b ∈ fp, H' b = none) → ∀ b ∈ fp, FpOk X pins H' b := fun hn b hb => ⟨hn b hb, (f2 b hb).2⟩
  refine codeAny_forLoop_any (fun n s' => ∃ i σ' H', Inv X pins σ' H' s' ∧ tn i s'.heap ∧ (∀ b ∈ fp, H' b = none) ∧ W i n σ' H') ?_ m0 ⟨0, σ, H2, I2, st2, fun b hb => (f2 b hb).1, w0⟩
  rintro n s3 ⟨i, σ3, H3, I3, st3, fr3, w3⟩
  rcases turn i n σ3 H3 w3 with ⟨stop, qn⟩ | ⟨go, N, hN, step⟩
  · refine wpAny_passesOwn hp (thn (T.done X rfl rfl rfl hc i pins s3 σ3 H3 X.xe I3 (stat fr3) st3 stop) fun r s4 ⟨hr, I4⟩ => ?_)
    subst hr
    exact wpAny_execs_nil ⟨σ3, H3, I4, qn⟩
  · refine wpAny_passesOwn hp (thn (T.item X rfl rfl rfl hc i pins s3 σ3 H3 X.xe I3 (stat fr3) st3 go) fun r s4 ⟨u, hr, h4⟩ => ?_)
    subst hr
    refine wpAny_passesOwn hp (thn h4 fun _ s5 ⟨x, H5, I5, r5, y5, st5, fr5⟩ => ?_)
    have I5' := I5.pinned (stat fr5) (T.obj _ _ st5)
    refine wpAny_passesOwn hp (thn (hg _ s5 σ3 H5 x u _ I5' r5 (step x H5 y5)) fun _ s6 ⟨σ6, H6, I6, q6⟩ => ?_)
    refine wpAny_passesOwn hp (thn (hb _ s6 σ6 H6 _ I6 q6) fun f s7 q7 => ?_)
    have again : ∀ {σ7 : St} {H7 : Hp}, Inv X (pins ++ pinsAt fp s5.heap) σ7 H7 s7 → N σ7 H7 → ∃ m, m < n ∧ ∃ i σ' H', Inv X pins σ' H' s7 ∧ tn i s7.heap ∧ (∀ b ∈ fp, H' b = none) ∧ W i m σ' H' := fun {σ7 H7} I7 n7 => by
      obtain ⟨m', hm, w7⟩ := hN σ7 H7 n7
      refine ⟨m', hm, i + 1, σ7, H7, I7.unpinned, T.keep _ _ _ st5 fun b hb o e => (I7.pin (b, o) (List.mem_append_right _ (List.mem_append_right _ (mem_pinsAt hb e)))).1, fun b hb => ?_, w7⟩
      obtain ⟨o, e, d⟩ := T.obj _ _ st5 b hb
      exact (I7.pin (b, o) (List.mem_append_right _ (List.mem_append_right _ (mem_pinsAt hb e)))).2.1
    cases f with
    | next => obtain ⟨σ7, H7, I7, n7⟩ := q7; exact again I7 n7
    | cont => obtain ⟨σ7, H7, I7, n7⟩ := q7; exact again I7 n7
    | brk => obtain ⟨σ7, H7, I7, q7⟩ := q7; exact ⟨σ7, H7, I7.unpinned, q7⟩
    | ret v => obtain ⟨x7, σ7, H7, I7, r7, q7⟩ := q7; exact ⟨x7, σ7, H7, I7.unpinned, r7, q7⟩
end

/-! ### the forms one uses -/
end L2

namespace L2
open PySem PySem.Spec PyProof.Rows

abbrev R2 := V → V → Hp → VK → Prop
/-- a two-place operation on values: f is binaryOp op, inplaceOp op or compareOp op -/
def OpR (X : Cx) (f : Value → Value → Sem Value) (r : R2) : Prop :=
  ∀ (pins : List (Addr × Obj)) (s : Shared) (σ : St) (H : Hp) (x y : V) (v u : Value) (Q : VK), Inv X pins σ H s → RelV x v → RelV y u → r x y H Q →
    wpAny (model X.prog X.w) X.A (f v u) (EP X pins σ Q) X.xe s
/-- a one-place operation -/
def UnR (X : Cx) (f : Value → Sem Value) (r : V → Hp → VK → Prop) : Prop :=
  ∀ (pins : List (Addr × Obj)) (s : Shared) (σ : St) (H : Hp) (x : V) (v : Value) (Q : VK), Inv X pins σ H s → RelV x v → r x H Q →
    wpAny (model X.prog X.w) X.A (f v) (EP X pins σ Q) X.xe s
/-- a call of a value that is known (a builtin, a type) with values -/
def CallR (X : Cx) (f : Value) (r : List V → Hp → VK → Prop) : Prop :=
  ∀ (pins : List (Addr × Obj)) (s : Shared) (σ : St) (H : Hp) (xs : List V) (us : List Value) (Q : VK), Inv X pins σ H s → Vals xs us → r xs H Q →
    wpAny (model X.prog X.w) X.A (call f us) (EP X pins σ Q) X.xe s
/-- a value's truth -/
def TruR (X : Cx) (r : V → Hp → (Bool → Hp → Prop) → Prop) : Prop :=
  ∀ (pins : List (Addr × Obj)) (s : Shared) (σ : St) (H : Hp) (x : V) (v : Value) (Q : Bool → Hp → Prop), Inv X pins σ H s → RelV x v → r x H Q →
    wpAny (model X.prog X.w) X.A (truthy v) (TP X pins σ Q) X.xe s

def tOp (r : R2) (ta tb : TE) : TE := fun σ H Q => ta σ H fun x H1 => tb σ H1 fun y H2 => r x y H2 Q
def tUn (r : V → Hp → VK → Prop) (ta : TE) : TE := fun σ H Q => ta σ H fun x H1 => r x H1 Q
/-- ints in, under C, and a value out -/
def rI (C : Int → Int → Prop) (g : Int → Int → V) : R2 := fun x y H Q => ∃ i j, x = .int i ∧ y = .int j ∧ C i j ∧ Q (g i j) H
def rI0 (g : Int → Int → V) : R2 := fun x y H Q => ∃ i j, x = .int i ∧ y = .int j ∧ Q (g i j) H
def rU (g : Int → V) : V → Hp → VK → Prop := fun x H Q => ∃ i, x = .int i ∧ Q (g i) H

section
variable {X : Cx} {a b c : Expr} {ta tb tc : TE} {pos : Pos}

theorem binT (ha : PE X a ta) (hb : PE X b tb) {pins : List (Addr × Obj)} {s : Shared} {σ : St} {H : Hp} {R : V → V → Hp → Prop} (I : Inv X pins σ H s)
    (h : ta σ H fun x H1 => tb σ H1 fun y H2 => R x y H2) {Q : Value → Shared → Prop} {f : Value → Value → Sem Value}
    (hf : ∀ v u s2 x y H2, Inv X pins σ H2 s2 → RelV x v → RelV y u → R x y H2 → wpAny (model X.prog X.w) X.A (f v u) Q X.xe s2) :
    wpAny (model X.prog X.w) X.A (eval a X.env) (fun v s₁ => wpAny (model X.prog X.w) X.A (eval b X.env) (fun u s₂ => wpAny (model X.prog X.w) X.A (f v u) Q X.xe s₂) X.xe s₁) X.xe s := by
  refine thn (ha pins s σ H _ I h) fun v s1 ⟨x, H1, I1, r1, q1⟩ => ?_
  refine thn (hb pins s1 σ H1 _ I1 q1) fun u s2 ⟨y, H2, I2, r2, q2⟩ => ?_
  exact hf v u s2 x y H2 I2 r1 r2 q2

theorem pe_op {op : Operator} {r : R2} (ho : OpR X (binaryOp op) r) (ha : PE X a ta) (hb : PE X b tb) : PE X (.BinOp a op b pos) (tOp r ta tb) := by
  intro pins s σ H Q I h
  exact wpAny_BinOp (binT ha hb I h fun v u s2 x y H2 I2 rx ry q => ho pins s2 σ H2 x y v u Q I2 rx ry q)
theorem pe_un {op : UnaryOp} {r : V → Hp → VK → Prop} (ho : UnR X (unaryOp op) r) (ha : PE X a ta) : PE X (.UnaryOp op a pos) (tUn r ta) := by
  intro pins s σ H Q I h
  exact UnaryOp_ (thn (ha pins s σ H _ I h) fun v s1 ⟨x, H1, I1, r1, q1⟩ => ho pins s1 σ H1 x v Q I1 r1 q1)
/-! ### ints -/
theorem opI {f : Value → Value → Sem Value} {C : Int → Int → Prop} {g : Int → Int → Int}
    (rule : ∀ (i j : Int) (t u : Tok) (s : Shared) (Q : Value → Shared → Prop) (E : Value → Shared → Prop), C i j → Q (.int (g i j) s.toks) { s with toks := s.toks + 1 } → wpAny (model X.prog X.w) X.A (f (.int i t) (.int j u)) Q E s) :
    OpR X f (rI C fun i j => .int (g i j)) := by
  intro pins s σ H x y v u Q I rx ry h
  obtain ⟨i, j, rfl, rfl, hc, q⟩ := h
  obtain ⟨t, rfl⟩ := rx
  obtain ⟨t', rfl⟩ := ry
  exact rule i j t t' s _ _ hc ⟨.int (g i j), H, I.tok _, ⟨_, rfl⟩, q⟩
theorem opI0 {f : Value → Value → Sem Value} {g : Int → Int → Int}
    (rule : ∀ (i j : Int) (t u : Tok) (s : Shared) (Q : Value → Shared → Prop) (E : Value → Shared → Prop), Q (.int (g i j) s.toks) { s with toks := s.toks + 1 } → wpAny (model X.prog X.w) X.A (f (.int i t) (.int j u)) Q E s) :
    OpR X f (rI0 fun i j => .int (g i j)) := by
  intro pins s σ H x y v u Q I rx ry h
  obtain ⟨i, j, rfl, rfl, q⟩ := h
  obtain ⟨t, rfl⟩ := rx
  obtain ⟨t', rfl⟩ := ry
  exact rule i j t t' s _ _ ⟨.int (g i j), H, I.tok _, ⟨_, rfl⟩, q⟩
theorem opB0 {f : Value → Value → Sem Value} {g : Int → Int → Bool}
    (rule : ∀ (i j : Int) (t u : Tok) (s : Shared) (Q : Value → Shared → Prop) (E : Value → Shared → Prop), Q (.bool (g i j)) s → wpAny (model X.prog X.w) X.A (f (.int i t) (.int j u)) Q E s) :
    OpR X f (rI0 fun i j => .bl (g i j)) := by
  intro pins s σ H x y v u Q I rx ry h
  obtain ⟨i, j, rfl, rfl, q⟩ := h
  obtain ⟨t, rfl⟩ := rx
  obtain ⟨t', rfl⟩ := ry
  exact rule i j t t' s _ _ ⟨.bl (g i j), H, I, rfl, q⟩

def CDiv (i j : Int) : Prop := 0 < j ∧ j < 1073741824
def CDivN (i j : Int) : Prop := j ≠ 0 ∧ j.natAbs < 1073741824
def CPow (i j : Int) : Prop := 0 ≤ j ∧ j ≤ 1000000 ∧ i.natAbs < 2 ^ 64
def CMul (i j : Int) : Prop := (-(2 ^ 64) < i ∧ i < 2 ^ 64) ∨ (-(2 ^ 64) < j ∧ j < 2 ^ 64)
theorem CMul.ok {i j : Int} (h : CMul i j) : IntMulOk i j := by
  rcases h with ⟨h1, h2⟩ | ⟨h1, h2⟩
  · exact .of_left (intBits_le_64 h1 h2)
  · exact .of_right (intBits_le_64 h1 h2)
theorem op_add : OpR X (binaryOp .Add) (rI0 fun i j => .int (i + j)) := opI0 fun _ _ _ _ _ _ _ q => add_int q
theorem op_sub : OpR X (binaryOp .Sub) (rI0 fun i j => .int (i - j)) := opI0 fun _ _ _ _ _ _ _ q => sub_int q
theorem op_modN : OpR X (binaryOp .Mod) (rI (fun _ j => j ≠ 0) fun i j => .int (i.fmod j)) := opI fun _ _ _ _ _ _ _ hc q => mod_int' hc q
theorem op_pow : OpR X (binaryOp .Pow) (rI CPow fun i j => .int (i ^ j.toNat)) := opI fun _ _ _ _ _ _ _ hc q => pow_int_small hc.1 hc.2.1 hc.2.2 q
theorem unI {f : Value → Sem Value} {g : Int → Int}
    (rule : ∀ (i : Int) (t : Tok) (s : Shared) (Q : Value → Shared → Prop) (E : Value → Shared → Prop), Q (.int (g i) s.toks) { s with toks := s.toks + 1 } → wpAny (model X.prog X.w) X.A (f (.int i t)) Q E s) :
    UnR X f (rU fun i => .int (g i)) := by
  intro pins s σ H x v Q I rx h
  obtain ⟨i, rfl, q⟩ := h
  obtain ⟨t, rfl⟩ := rx
  exact rule i t s _ _ ⟨.int (g i), H, I.tok _, ⟨_, rfl⟩, q⟩
theorem un_neg : UnR X (unaryOp .USub) (rU fun i => .int (-i)) := unI fun _ _ _ _ _ q => neg_int q
/-! ### bools among ints: n += (a < b) -/
end

/-! ### comparisons -/
/-- the scalars that == tells apart as data does -/
def scal : V → V → Bool
  | .non, .non => true | .non, .int _ => true | .int _, .non => true | .non, .bl _ => true | .bl _, .non => true | .non, .str _ => true | .str _, .non => true
  | .int _, .int _ => true | .bl _, .bl _ => true | .str _, .str _ => true | .byt _, .byt _ => true
  | .int _, .str _ => true | .str _, .int _ => true | .bl _, .str _ => true | .str _, .bl _ => true
  | _, _ => false
def rEq : R2 := fun x y H Q => scal x y = true ∧ Q (.bl (decide (x = y))) H
def rNe : R2 := fun x y H Q => scal x y = true ∧ Q (.bl (!decide (x = y))) H

section
variable {X : Cx} {a b c : Expr} {ta tb tc : TE} {pos : Pos}
theorem fin_bl {pins : List (Addr × Obj)} {σ : St} {H : Hp} {s : Shared} {Q : VK} {k k' : Bool} (I : Inv X pins σ H s) (q : Q (.bl k) H) (e : k = k') : EP X pins σ Q (.bool k') s := by
  subst e
  exact ⟨.bl k, H, I, rfl, q⟩
theorem op_lt : OpR X (compareOp .Lt) (rI0 fun i j => .bl (decide (i < j))) := opB0 fun _ _ _ _ _ _ _ q => lt_int q
theorem op_gt : OpR X (compareOp .Gt) (rI0 fun i j => .bl (decide (j < i))) := opB0 fun _ _ _ _ _ _ _ q => gt_int q
theorem op_ge : OpR X (compareOp .GtE) (rI0 fun i j => .bl (decide (j ≤ i))) := opB0 fun _ _ _ _ _ _ _ q => ge_int q
/-- the one string within the other -/
theorem op_in_str : OpR X (compareOp .In) (fun x y H Q => ∃ i j, x = .str i ∧ y = .str j ∧ Q (.bl (!(Builtin.Str.occurrences j i 0 j.length 1).isEmpty)) H) := by
  intro pins s σ H x y v u Q I rx ry h
  obtain ⟨i, j, rfl, rfl, q⟩ := h
  obtain ⟨t, rfl⟩ := rx
  obtain ⟨t', rfl⟩ := ry
  exact in_str (fin_bl I q rfl)

/-- is, is not of two objects that are tracked lists or instances -/
def isObj : HO → Bool
  | .lst _ => true
  | .ins _ _ _ => true
  | _ => false
/-- two rules for one operation: by cases -/
theorem OpR.or {f : Value → Value → Sem Value} {r r' : R2} (h : OpR X f r) (h' : OpR X f r') : OpR X f (fun x y H Q => r x y H Q ∨ r' x y H Q) := by
  intro pins s σ H x y v u Q I rx ry q
  rcases q with q | q
  · exact h pins s σ H x y v u Q I rx ry q
  · exact h' pins s σ H x y v u Q I rx ry q

theorem nomark (b : Expr) {op : CmpOp} (h : op ≠ .In := by decide) (h2 : op ≠ .NotIn := by decide) : behindInMarks op b = false := by
  have e1 : (op == CmpOp.In) = false := by cases op <;> first | rfl | exact absurd rfl h
  have e2 : (op == CmpOp.NotIn) = false := by cases op <;> first | rfl | exact absurd rfl h2
  cases b <;> simp [behindInMarks, e1, e2]
/-- a comparison as a value; hm: nomark b, or (for in, not in) by with_unfolding_all rfl -/
theorem pe_cmpR {op : CmpOp} {r : R2} (ho : OpR X (compareOp op) r) (ha : PE X a ta) (hb : PE X b tb) (hm : behindInMarks op b = false) : PE X (.Compare a [op] [b] pos) (tOp r ta tb) := by
  intro pins s σ H Q I h
  exact wpAny_Compare1 (binT ha hb I h fun v u s2 x y H2 I2 rx ry q => ho pins s2 σ H2 x y v u Q I2 rx ry q) hm
/-- a reading of a value as a test -/
def tTest (t : TE) : TT := fun σ H Q => t σ H fun x H' => ∃ k, x = .bl k ∧ Q k H'
theorem pt_cmpR {op : CmpOp} {r : R2} (ho : OpR X (compareOp op) r) (ha : PE X a ta) (hb : PE X b tb) (hm : behindInMarks op b = false) : PT X (.Compare a [op] [b] pos) (tTest (tOp r ta tb)) := by
  intro pins s σ H Q I h
  refine wpAny_isTrue_Compare1 (thn (ha pins s σ H _ I h) fun v s1 ⟨x, H1, I1, r1, q1⟩ => thn (hb pins s1 σ H1 _ I1 q1) fun u s2 ⟨y, H2, I2, r2, q2⟩ =>
    thn (ho pins s2 σ H2 x y v u _ I2 r1 r2 q2) fun c s3 ⟨z, H3, I3, r3, k, e, q3⟩ => ?_) hm
  subst e
  cases r3
  exact wpAny_truthy_bool ⟨H3, I3, q3⟩
/-- a op1 b op2 c -/
def tChain (r r' : R2) (ta tb tc : TE) : TE := fun σ H Q => ta σ H fun x H1 => tb σ H1 fun y H2 => r x y H2 fun z H3 => ∃ k, z = .bl k ∧
  (if k = true then tc σ H3 fun w' H4 => r' y w' H4 Q else Q (.bl false) H3)
/-! ### truth -/
/-- a value's truth by the abstract heap -/
def TruV (K : PySem.W.Frag) (x : V) (H : Hp) (k : Bool) : Prop :=
  match x with
  | .non => k = false
  | .bl b => k = b
  | .int i => k = (i != 0)
  | .str y => y.length ≤ sizeLine ∧ k = ((y.length : Int) != 0)
  | .byt y => y.size ≤ sizeLine ∧ k = ((y.size : Int) != 0)
  | .ref p => (∃ xs, SqL K H p xs ∧ k = !xs.isEmpty) ∨ (∃ xs, SqT K H p xs ∧ k = !xs.isEmpty) ∨ ∃ kvs, H p = some (.dK kvs) ∧ k = !kvs.isEmpty
  | _ => False
theorem line63 : (sizeLine : Nat) < 2 ^ 63 := by rw [sizeLine_eq]; decide
/-! ### strs and bytes -/
theorem op_add_str : OpR X (binaryOp .Add) (fun x y H Q => ∃ i j, x = .str i ∧ y = .str j ∧ i.length + j.length ≤ sizeLine ∧ Q (.str (i ++ j)) H) := by
  intro pins s σ H x y v u Q I rx ry h
  obtain ⟨i, j, rfl, rfl, hz, q⟩ := h
  obtain ⟨t, rfl⟩ := rx
  obtain ⟨t', rfl⟩ := ry
  exact add_str (fun t' tk => ⟨.str (i ++ j), H, I.tok _, ⟨_, rfl⟩, q⟩) hz
def PlainIxT (b : Expr) : Prop := ∀ o i, subscripted b false o i = operate [o, i] (getItem o i)
/-! ### scalar builtins, by CallR -/
theorem vals1 {x : V} {us : List Value} (r : Vals [x] us) : ∃ u, us = [u] ∧ RelV x u := by
  cases r with
  | cons r1 r2 => cases r2; exact ⟨_, rfl, r1⟩
theorem call_abs : CallR X (.builtin "abs") (fun xs H Q => ∃ i, xs = [.int i] ∧ Q (.int (if i < 0 then -i else i)) H) := by
  intro pins s σ H xs us Q I r h
  obtain ⟨i, rfl, q⟩ := h
  obtain ⟨u, rfl, t, rfl⟩ := vals1 r
  exact call_abs_int fun u tk => ⟨.int (if i < 0 then -i else i), H, I.tok _, ⟨_, rfl⟩, q⟩
theorem call_int1 : CallR X (.type "int") (fun xs H Q => (∃ i, xs = [.int i] ∧ Q (.int i) H) ∨ ∃ k, xs = [.bl k] ∧ Q (.int (if k then 1 else 0)) H) := by
  intro pins s σ H xs us Q I r h
  rcases h with ⟨i, rfl, q⟩ | ⟨k, rfl, q⟩
  · obtain ⟨u, rfl, t, rfl⟩ := vals1 r
    exact call_int_int ⟨.int i, H, I, ⟨_, rfl⟩, q⟩
  · obtain ⟨u, rfl, r1⟩ := vals1 r
    cases r1
    exact call_int_bool ⟨.int (if k then 1 else 0), H, I.tok _, ⟨_, rfl⟩, q⟩
theorem call_str_int : CallR X (.type "str") (fun xs H Q => ∃ i, xs = [.int i] ∧ i.natAbs.log2 < 1920 ∧ Q (.str (toString i)) H) := by
  intro pins s σ H xs us Q I r h
  obtain ⟨i, rfl, hz, q⟩ := h
  obtain ⟨u, rfl, t, rfl⟩ := vals1 r
  exact PySem.P.str_of_int hz ⟨.str _, H, I.tok _, ⟨_, rfl⟩, q⟩
/-- len of a str, a bytes, a list, a tuple -/
def LenV (K : PySem.W.Frag) (x : V) (H : Hp) (n : Nat) : Prop :=
  match x with
  | .str y => y.length ≤ sizeLine ∧ n = y.length
  | .byt y => y.size ≤ sizeLine ∧ n = y.size
  | .ref p => (∃ xs, SqL K H p xs ∧ n = xs.length) ∨ ∃ xs, SqT K H p xs ∧ n = xs.length
  | _ => False
end
end L2

namespace L2
open PySem PySem.Spec PyProof.Rows

/-! ### an instance, its attributes a map -/
structure ObjM (h : Heap) (x dx C : Addr) (mA : Str → Option Value) : Prop where
  obj : h.get? x = some (PySem.W.instObj C dx)
  ns : h.Ns1 dx mA
  ne : dx ≠ x

theorem lookIn_ns {h : Heap} {dx : Addr} {mA : Str → Option Value} (n : h.Ns1 dx mA) : ∃ od, h.get? dx = some od ∧ ∀ name, PySem.W.lookIn name od = some (mA name) := by
  obtain ⟨o, es, ep, ho, hd, hk, _, hm⟩ := n
  refine ⟨o, ho, fun name => ?_⟩
  have e := hm name
  unfold nsFind findBy at e
  rw [← Array.find?_toList] at e
  unfold PySem.W.lookIn
  rw [hd]
  dsimp only
  split
  · rename_i y q
    rw [q] at e
    exact congrArg some e
  · rename_i q
    rw [q] at e
    have a : es.toList.any (·.refKey) = false := by
      rw [List.any_eq_false]
      intro y hy
      obtain ⟨z, t, hkey⟩ := hk y (Array.mem_toList_iff.mp hy)
      simp [DictEntry.refKey, hkey]
    have a' : ¬ es.toList.any (·.refKey) = true := by rw [a]; exact Bool.false_ne_true
    rw [if_neg a']
    exact congrArg some e

theorem ObjM.look {h : Heap} {x dx C : Addr} {mA : Str → Option Value} (I : ObjM h x dx C mA) : ∃ od, PySem.W.InstAt h x (PySem.W.instObj C dx) C (some od) ∧ ∀ name, PySem.W.lookIn name od = some (mA name) :=
  let ⟨od, ho, hl⟩ := lookIn_ns I.ns
  ⟨od, ⟨I.obj, rfl, rfl, ho⟩, hl⟩

section
variable {prog : Program} {w : World} {A : Around} {E : Value → Shared → Prop} {s : Shared} {K : PySem.W.Frag} {x dx C f : Addr} {mA : Str → Option Value} {name : Str} {v : Value}

end

/-! ### the attributes as a list of pairs -/
def putF (f : Str) (v : V) : List (Str × V) → List (Str × V)
  | [] => [(f, v)]
  | (g, x) :: r => if g = f then (g, v) :: r else (g, x) :: putF f v r
theorem RelO.none_of {o : Option Value} (r : RelO none o) : o = none := by
  cases o with
  | none => rfl
  | some u => exact (show False from r).elim
section
variable {P : Program} {w : World} {H H' : Hp} {h h' : Heap} {a C dx : Addr} {fs fs' : List (Str × V)}
end

/-! ### what of the text a class must have -/
structure Cls (K : PySem.W.Frag) (C : Addr) : Prop where
  pg : PySem.W.plainGet K C Str.empty = true
  hd : PySem.W.hasDictIn K C = true
  po : PySem.W.plainOver K C = true
  sa : PySem.W.findIn K (.ref C) "__setattr__" = some (some (.builtin "object.__setattr__"))
theorem Cls.get {K : PySem.W.Frag} {C : Addr} (c : Cls K C) (f : Str) : PySem.W.plainGet K C f = true := c.pg
/-- no class of it has the name -/
def NoAttr (K : PySem.W.Frag) (C : Addr) (f : Str) : Prop := PySem.W.findIn K (.ref C) f = some none
/-- a constant of the class -/
structure Con (K : PySem.W.Frag) (C : Addr) (f : Str) (v : V) (u : Value) : Prop where
  at_ : PySem.W.findIn K (.ref C) f = some (some u)
  rel : RelV v u
  get : PySem.W.specialIn K u "__get__" = some none
  cp : PySem.W.copiedNames.contains f = false
/-- a method: a plain def of the class or of one above it -/
structure Meth (K : PySem.W.Frag) (C : Addr) (m : Str) (f : Addr) : Prop where
  at_ : PySem.W.findIn K (.ref C) m = some (some (.ref f))
  fn : PySem.W.isFn K (.ref f) = true
  kp : PySem.W.keepIn K (.ref f) = true

section
variable {X : Cx} {pins : List (Addr × Obj)} {σ : St} {H : Hp} {s : Shared} {a C dx : Addr} {fs : List (Str × V)} {f : Str} {v : V} {A : Around} {E : Value → Shared → Prop}

/-- a new instance, tracked, without attributes -/
theorem Inv.made (I : Inv X pins σ H s) : Inv X pins σ (upd (upd H s.heap.objs.size (.own (s.heap.objs.size + 1))) (s.heap.objs.size + 1) (.ins C s.heap.objs.size []))
    { s with heap := (s.heap.push PySem.W.emptyDict).push (PySem.W.instObj C s.heap.objs.size) } := by
  have e1 : (s.heap.push PySem.W.emptyDict).get? s.heap.objs.size = some PySem.W.emptyDict := Heap.get?_push_size s.heap rfl
  have e2 : ((s.heap.push PySem.W.emptyDict).push (PySem.W.instObj C s.heap.objs.size)).get? (s.heap.objs.size + 1) = some (PySem.W.instObj C s.heap.objs.size) := by
    have := Heap.get?_push_size (s.heap.push PySem.W.emptyDict) (o := PySem.W.instObj C s.heap.objs.size) rfl
    rwa [Heap.size_push] at this
  have e3 : (s.heap.push PySem.W.emptyDict).Ns s.heap.objs.size (fun _ => none) := ⟨PySem.W.emptyDict, #[], _, e1, rfl, (fun e he => absurd he (by simp)), fun _ => rfl⟩
  have I1 := I.laid (a := s.heap.objs.size) (o := .own (s.heap.objs.size + 1)) (h' := s.heap.push PySem.W.emptyDict) (t' := s.toks) (fun b u q => Heap.get?_push_of_some _ q) (Nat.le_refl _) ⟨_, e1⟩
  refine I1.laid (a := s.heap.objs.size + 1) (o := .ins C s.heap.objs.size []) (t' := s.toks) (fun b u q => Heap.get?_push_of_some _ q) (Nat.le_of_eq (Heap.size_push _ _)) ?_
  have ne : s.heap.objs.size ≠ s.heap.objs.size + 1 := Nat.ne_of_lt (Nat.lt_succ_self _)
  refine ⟨by rw [upd_ne ne, upd_same], Nat.zero_le _, ne, e2, fun _ => none, (Heap.Ns1.of_empty e3).at fun o q => Heap.get?_push_of_some _ q, fun _ => True.intro, fun y hy => absurd rfl hy⟩

end

/-! ### readings and rules -/
/-- e.f, an attribute of the instance -/
def tFld (K : PySem.W.Frag) (ta : TE) (f : Str) : TE := fun σ H Q => ta σ H fun x H1 => ∃ a C dx fs v, x = .ref a ∧ H1 a = some (.ins C dx fs) ∧ Cls K C ∧ NoAttr K C f ∧ fs.lookup f = some v ∧ Q v H1
/-- e.f, a constant of the class -/
def tCon (K : PySem.W.Frag) (ta : TE) (f : Str) : TE := fun σ H Q => ta σ H fun x H1 => ∃ a C dx fs v u, x = .ref a ∧ H1 a = some (.ins C dx fs) ∧ Cls K C ∧ Con K C f v u ∧ fs.lookup f = none ∧ Q v H1
/-- e.f = value -/
def sFld (K : PySem.W.Frag) (ta tv : TE) (f : Str) : TS := fun D σ H => tv σ H fun y H1 => ta σ H1 fun x H2 => ∃ a C dx fs, x = .ref a ∧ H2 a = some (.ins C dx fs) ∧ Cls K C ∧ NoAttr K C f ∧ fs.length < 1000 ∧
  D.nx σ (upd H2 a (.ins C dx (putF f y fs)))
/-- an augmented operator on two values -/
def InOp (X : Cx) (op : Operator) (rd : V → V → Hp → VK → Prop) : Prop :=
  ∀ (pins : List (Addr × Obj)) (s : Shared) (σ : St) (H : Hp) (x y : V) (u v : Value) (Q : VK), Inv X pins σ H s → RelV x u → RelV y v → rd x y H Q → wpAny (model X.prog X.w) X.A (inplaceOp op u v) (EP X pins σ Q) X.xe s
/-- e.f op= value -/
def sFldAug (K : PySem.W.Frag) (ta tv : TE) (rd : V → V → Hp → VK → Prop) (f : Str) : TS := fun D σ H => ta σ H fun x H1 => ∃ a C dx fs v, x = .ref a ∧ H1 a = some (.ins C dx fs) ∧ Cls K C ∧ NoAttr K C f ∧ fs.lookup f = some v ∧
  tv σ H1 fun y H2 => rd v y H2 fun z H3 => ∃ dx' fs', H3 a = some (.ins C dx' fs') ∧ fs'.length < 1000 ∧ D.nx σ (upd H3 a (.ins C dx' (putF f z fs')))

section
variable {X : Cx} {o e value : Expr} {f : Str} {pos pos' tpos : Pos} {ta tv : TE}
def rAdd : V → V → Hp → VK → Prop := fun x y H Q => ∃ i j, x = .int i ∧ y = .int j ∧ Q (.int (i + j)) H
def rSub : V → V → Hp → VK → Prop := fun x y H Q => ∃ i j, x = .int i ∧ y = .int j ∧ Q (.int (i - j)) H
end

/-! ### isinstance -/
section
variable {X : Cx} {pins : List (Addr × Obj)} {σ : St} {H : Hp} {s : Shared} {A : Around} {E : Value → Shared → Prop} {Q : Value → Shared → Prop} {c : Value} {b : Bool}
/-- the type of a value, as the fragment's deciders take it; for an instance its class -/
inductive TyOf (K : PySem.W.Frag) (H : Hp) : V → Value → Prop where
  | non : TyOf K H .non (.type "NoneType")
  | bl (x : Bool) : TyOf K H (.bl x) (.type "bool")
  | int (i : Int) : TyOf K H (.int i) (.type "int")
  | str (x : Str) : TyOf K H (.str x) (.type "str")
  | flt (x : UInt64) : TyOf K H (.flt x) (.type "float")
  | lst {a : Addr} {xs : List V} (e : H a = some (.lst xs)) : TyOf K H (.ref a) (.type "list")
  | frz {a : Addr} {o : Obj} {xs : List V} (e : H a = some (.frz o (.lst xs))) : TyOf K H (.ref a) (.type "list")
  | tup {a : Addr} {xs : List V} (e : H a = some (.tup xs)) : TyOf K H (.ref a) (.type "tuple")
  | dK {a : Addr} {kvs : List (Key × V)} (e : H a = some (.dK kvs)) : TyOf K H (.ref a) (.type "dict")
  | dT {a : Addr} {kvs : List (List Key × V)} (e : H a = some (.dT kvs)) : TyOf K H (.ref a) (.type "dict")
  | ins {a C dx : Addr} {fs : List (Str × V)} (e : H a = some (.ins C dx fs)) (cl : Cls K C) (ha : PySem.W.findIn K (.ref C) "__class__" = some (some (.builtin "object.__class__")))
      (hn : PySem.W.specialIn K (.builtin "object.__class__") "__get__" = some (some (.builtin "getset_descriptor.__get__"))) (htk : PySem.W.takesIn K (.builtin "object.__class__") = some true)
      (hm : PySem.W.mroIn K C (.type "object") = some true) : TyOf K H (.ref a) (.ref C)
end
end L2

namespace L2
open PySem PySem.Spec PyProof.Rows

/-! ### room -/
structure Room (k : Nat) (A : Around) : Prop where
  hd : A.handled = none
  dp : A.depth + 3 * k + 5 < recursionLimit
  un : A.units + 16 * k + 200 < cLine
theorem Room.mono {j k : Nat} {A : Around} (r : Room k A) (h : j ≤ k) : Room j A := ⟨r.hd, by have := r.dp; omega, by have := r.un; omega⟩
theorem Room.deeper {k : Nat} {A : Around} (r : Room (k + 1) A) (env : Env) : Room k (A.deeper env) :=
  ⟨r.hd, by have := r.dp; show A.depth + 1 + 3 * k + 5 < _; omega, by have := r.un; show A.units + 3 + 16 * k + 200 < _; omega⟩
theorem Room.in1 {k : Nat} {A : Around} (r : Room (k + 1) A) : Room k A.in1 :=
  ⟨r.hd, by have := r.dp; show A.depth + 3 * k + 5 < _; omega, by have := r.un; show A.units + 1 + 16 * k + 200 < _; omega⟩
theorem make_depth {A : Around} {C : Addr} {us : List Value} {kw : List (Str × Value)} : (A.under (.builtin "type.__call__" ⟨.ref C :: us, kw⟩)).depth = A.depth + 1 := by
  first | rfl | simp [Around.under, Code.weight, Code.isCreation, Code.isGuard, Code.isCaller, Code.frames, Code.isFrame, guardIds]
theorem make_units {A : Around} {C : Addr} {us : List Value} {kw : List (Str × Value)} : (A.under (.builtin "type.__call__" ⟨.ref C :: us, kw⟩)).units = A.units + 1 := by
  first | rfl | simp [Around.under, Code.cUnits, Code.frames, Code.isFrame]
theorem Room.make {k : Nat} {A : Around} (r : Room (k + 1) A) (C : Addr) (us : List Value) (kw : List (Str × Value)) : Room k (A.under (.builtin "type.__call__" ⟨.ref C :: us, kw⟩)) :=
  ⟨r.hd, by have := r.dp; rw [make_depth]; omega, by have := r.un; rw [make_units]; omega⟩
theorem Room.depth {k : Nat} {A : Around} (r : Room k A) : A.depth < recursionLimit := by have := r.dp; omega
theorem Room.units {k : Nat} {A : Around} (r : Room k A) : A.units + 64 < cLine := by have := r.un; omega
/-! ### argument lists and displays -/
def tNil : TA := fun _ H Q => Q [] H
def tCons (ta : TE) (tr : TA) : TA := fun σ H Q => ta σ H fun x H1 => tr σ H1 fun xs H2 => Q (x :: xs) H2
section
variable {X : Cx} {e : Expr} {es : List Expr} {te : TE} {t : TA} {pos : Pos}
theorem pa_nil : PA X [] tNil := fun _ _ _ _ H Q I h => Calls.spliced_nil ⟨[], H, I, .nil, h⟩
theorem pa_cons (ha : PE X e te) (hr : PA X es t) (hs : starEach (e :: es) X.env = (false, eval e X.env) :: starEach es X.env := by rfl) : PA X (e :: es) (tCons te t) := by
  intro pos pins s σ H Q I h
  rw [hs]
  show wpAny _ _ (spliced ((false, eval e X.env) :: backTo pos (starEach es X.env))) _ _ s
  refine Calls.spliced_cons (thn (ha pins s σ H _ I h) fun u s1 ⟨x, H1, I1, r1, q1⟩ => ?_)
  exact thn (hr pos pins s1 σ H1 _ I1 q1) fun us s2 ⟨xs, H2, I2, r2, q2⟩ => ⟨x :: xs, H2, I2, .cons r1 r2, q2⟩

/-- a tuple, a list of written items -/
def tTup (t : TA) : TE := fun σ H Q => t σ H fun xs H1 => xs.length ≤ sizeLine ∧ ∀ p, H1 p = none → Q (.ref p) (upd H1 p (.tup xs))
def tLst (t : TA) : TE := fun σ H Q => t σ H fun xs H1 => xs.length ≤ sizeLine ∧ ∀ p, H1 p = none → Q (.ref p) (upd H1 p (.lst xs))
theorem pe_tup {x1} (h : PA X es t) : PE X (.Tuple es x1 pos) (tTup t) := by
  intro pins s σ H Q I hq
  refine wpAny_Tuple_spliced (thn (h pos pins s σ H _ I hq) fun us s1 ⟨xs, H1, I1, r, z, q⟩ => ⟨by rw [← r.length]; exact z, ?_⟩)
  have hf : H1 s1.heap.objs.size = none := I1.hok.fresh (Nat.le_refl _)
  refine ⟨.ref s1.heap.objs.size, upd H1 s1.heap.objs.size (.tup xs), I1.laid (t' := s1.toks) (fun b u e => Heap.get?_push_of_some _ e) (Nat.le_refl _) ?_, rfl, q _ hf⟩
  exact ⟨z, us, r, ⟨_, Heap.get?_push_size _ rfl, rfl, _, rfl⟩⟩
theorem pe_lst (h : PA X es t) : PE X (.List es pos) (tLst t) := by
  intro pins s σ H Q I hq
  refine wpAny_List_spliced (thn (h pos pins s σ H _ I hq) fun us s1 ⟨xs, H1, I1, r, z, q⟩ => ⟨by rw [← r.length]; exact z, ?_⟩)
  have hf : H1 s1.heap.objs.size = none := I1.hok.fresh (Nat.le_refl _)
  refine ⟨.ref s1.heap.objs.size, upd H1 s1.heap.objs.size (.lst xs), I1.laid (t' := s1.toks) (fun b u e => Heap.get?_push_of_some _ e) (Nat.le_refl _) ?_, rfl, q _ hf⟩
  exact ⟨z, us, 0, r, Heap.get?_push_size _ rfl⟩
end

/-! ### what a def promises -/
/-- a def's promise: the bound arguments in the parameters' order, the heap, the wanted end, the wanted exception -/
abbrev Sp := List V → Hp → VK → XK → Prop
/-- how an exception lies behind a call (file 08 gives it): the callers' frames, abstract heap and state ahead of the call, the wish, the exception, the state -/
abbrev CXT := List Env → Hp → Shared → XK → Value → Shared → Prop

/-- the state at a call -/
structure Env0 (P : Program) (w : World) (K : PySem.W.Frag) (mg : Str → Option Value) (base : Heap) (A : Around) (outer : List Env) (s : Shared) (H : Hp) : Prop where
  frames : A.frames = some outer
  mod : Mod K mg base
  bs : ∀ b o, base.get? b = some o → s.heap.get? b = some o ∧ H b = none
  bsz : base.objs.size ≤ s.heap.objs.size
  funs : s.heap.FunFrames base outer
  frf : ∀ b ∈ frs outer, H b = none
  hok : HOk P w H s.heap
  bare : AllBare s.gens
/-- a call's end -/
def CE (outer : List Env) (P : Program) (w : World) (H : Hp) (s : Shared) (Q : VK) (u : Value) (s' : Shared) : Prop :=
  ∃ v H', s'.os = s.os ∧ AllBare s'.gens ∧ Un (frs outer) [] H H' s.heap s'.heap ∧ HOk P w H' s'.heap ∧ RelV v u ∧ Q v H'
def CR (CX : CXT) (outer : List Env) (P : Program) (w : World) (H : Hp) (s : Shared) (Q : VK) (E : XK) (r : Result) (s' : Shared) : Prop :=
  match r with
  | .ok (.ret u) => CE outer P w H s Q u s'
  | .ok _ => False
  | .error e => CX outer H s E e s'
structure FnOk (P : Program) (w : World) (K : PySem.W.Frag) (mg : Str → Option Value) (base : Heap) (CX : CXT) (k : Nat) (f : Addr) (fd : FuncData) (ps : List Str) (sp : Sp) : Prop where
  len : ∀ vs H Q E, sp vs H Q E → vs.length = ps.length
  run : ∀ (A : Around) (outer : List Env) (s : Shared) (H : Hp) (args : Args) (us : List Value) (vs : List V) (Q : VK) (E : XK), Room k A → Env0 P w K mg base A outer s H → BindsTo s fd args (ps.zip us) → Vals vs us → sp vs H Q E →
    codeAny (model P w) A (.call (.ref f) args) (CR CX outer P w H s Q E) s
theorem FnOk.mono {P : Program} {w : World} {K : PySem.W.Frag} {mg : Str → Option Value} {base : Heap} {CX : CXT} {j k : Nat} {f : Addr} {fd : FuncData} {ps : List Str} {sp : Sp} (F : FnOk P w K mg base CX j f fd ps sp) (h : j ≤ k) :
    FnOk P w K mg base CX k f fd ps sp := ⟨F.len, fun A outer s H args us vs Q E hr => F.run A outer s H args us vs Q E (hr.mono h)⟩
/-- a weaker promise -/
theorem FnOk.imp {P : Program} {w : World} {K : PySem.W.Frag} {mg : Str → Option Value} {base : Heap} {CX : CXT} {k : Nat} {f : Addr} {fd : FuncData} {ps : List Str} {sp sp' : Sp} (F : FnOk P w K mg base CX k f fd ps sp)
    (h : ∀ vs H Q E, sp' vs H Q E → sp vs H Q E) : FnOk P w K mg base CX k f fd ps sp' :=
  ⟨fun vs H Q E q => F.len vs H Q E (h _ _ _ _ q), fun A outer s H args us vs Q E hr he hb hv hs => F.run A outer s H args us vs Q E hr he hb hv (h _ _ _ _ hs)⟩

theorem Env0.make {P : Program} {w : World} {K : PySem.W.Frag} {mg : Str → Option Value} {base : Heap} {A : Around} {outer : List Env} {s : Shared} {H : Hp} (e : Env0 P w K mg base A outer s H) (C : Addr) (us : List Value) (kw : List (Str × Value)) :
    Env0 P w K mg base (A.under (.builtin "type.__call__" ⟨.ref C :: us, kw⟩)) outer s H := ⟨by first | exact e.frames | (simpa [Around.under, Code.envs, Code.isFrame, pushEnvs] using e.frames), e.mod, e.bs, e.bsz, e.funs, e.frf, e.hok, e.bare⟩
theorem Env0.in1 {P : Program} {w : World} {K : PySem.W.Frag} {mg : Str → Option Value} {base : Heap} {A : Around} {outer : List Env} {s : Shared} {H : Hp} (e : Env0 P w K mg base A outer s H) :
    Env0 P w K mg base A.in1 outer s H := ⟨e.frames, e.mod, e.bs, e.bsz, e.funs, e.frf, e.hok, e.bare⟩

section
variable {X : Cx} {pins : List (Addr × Obj)} {σ : St} {H : Hp} {s s' : Shared}
/-- from a body: what a callee wants -/
theorem Inv.env0 (I : Inv X pins σ H s) : Env0 X.prog X.w X.K X.mg X.base X.A X.stack s H :=
  ⟨I.ok.frames, I.ok.mod, I.bs, Nat.le_trans I.ok.bsz I.sz, I.stack, I.stkFree, I.hok, I.bare⟩
/-- behind a call -/
theorem Inv.after {Q : VK} {u : Value} (I : Inv X pins σ H s) (h : CE X.stack X.prog X.w H s Q u s') : EP X pins σ Q u s' := by
  obtain ⟨v, H', os, bare, un, hok, r, q⟩ := h
  obtain ⟨hh, g, d, t, os'⟩ := s'
  obtain rfl : os' = s.os := os
  exact ⟨v, H', I.call (h' := hh) (g' := g) (d' := d) (t' := t) (ch := []) un hok bare (fun b z => absurd z (by simp)), r, q⟩
end

/-! ### calls -/
/-- f(..): the written arguments, then the defaults dvs; E: what is wanted of an exception -/
def tCall (sp : Sp) (dvs : List V) (E : XK) (t : TA) : TE := fun σ H Q => t σ H fun vs H1 => sp (vs ++ dvs) H1 Q E
/-- o.m(..) of an instance of the class at C -/
def tMeth (C : Addr) (m : Str) (sp : Sp) (dvs : List V) (E : XK) (ta : TE) (t : TA) : TE := fun σ H Q => ta σ H fun x H1 => ∃ a dx fs, x = .ref a ∧ H1 a = some (.ins C dx fs) ∧ fs.lookup m = none ∧
  t σ H1 fun vs H2 => sp (x :: (vs ++ dvs)) H2 Q E
/-- C(..): a new instance and its dict, then __init__ -/
def tMake (C : Addr) (sp : Sp) (dvs : List V) (E : XK) (t : TA) : TE := fun σ H Q => t σ H fun vs H1 => ∀ x dx, H1 x = none → H1 dx = none → dx ≠ x →
  sp (.ref x :: (vs ++ dvs)) (upd (upd H1 dx (.own x)) x (.ins C dx [])) (fun v H2 => v = .non ∧ Q (.ref x) H2) E

/-- how the parameters are bound: us the positional arguments, kw the keywords' values by name, ds the defaults that fill up -/
def Binds (K : PySem.W.Frag) (fd : FuncData) (ps : List Str) (ds : List Value) : Prop :=
  ∀ (s : Shared) (us : List Value), K.In s.heap → (us ++ ds).length = ps.length → BindsTo s fd ⟨us, []⟩ (ps.zip (us ++ ds))
/-- every parameter is given -/
theorem Binds.all {K : PySem.W.Frag} {fd : FuncData} {ps : List Str} (h : ∀ us : List Value, us.length = ps.length → bindArgs fd ⟨us, []⟩ = pure (ps.zip us)) : Binds K fd ps [] := fun s us _ hl => by
  rw [List.append_nil] at hl ⊢
  exact .of_eq (h us hl)

/-- an exception of a callee reaches what this body wants of exceptions -/
def Passes (CX : CXT) (X : Cx) (E : XK) : Prop := ∀ (pins : List (Addr × Obj)) (σ : St) (H : Hp) (s : Shared) (e : Value) (s' : Shared), Inv X pins σ H s → CX X.stack H s E e s' → X.xe e s'

section
variable {X : Cx} {CX : CXT} {k : Nat} {f C : Addr} {fd : FuncData} {ps : List Str} {sp : Sp} {dvs : List V} {ds : List Value} {E : XK} {x m : Str} {p pos apos : Pos} {e o : Expr} {es : List Expr} {ta : TE} {t : TA}

/-- the callee runs -/
theorem run_fn {pins : List (Addr × Obj)} {σ : St} {H : Hp} {s : Shared} {Q : VK} {us : List Value} {vs : List V} (F : FnOk X.prog X.w X.K X.mg X.base CX k f fd ps sp) (hr : Room k X.A) (hb : Binds X.K fd ps ds) (hd : Vals dvs ds) (hx : Passes CX X E)
    (I : Inv X pins σ H s) (r : Vals vs us) (h : sp (vs ++ dvs) H Q E) : wpAny (model X.prog X.w) X.A (call (.ref f) us) (EP X pins σ Q) X.xe s := by
  have r2 : Vals (vs ++ dvs) (us ++ ds) := r.append hd
  have hl : (us ++ ds).length = ps.length := by rw [← r2.length]; exact F.len _ _ _ _ h
  refine wpAny_call (codeAny_mono (F.run X.A X.stack s H ⟨us, []⟩ (us ++ ds) (vs ++ dvs) Q E hr I.env0 (hb s us I.kIn hl) r2 h) fun r s' hq => ?_)
  cases r with
  | error e => exact hx pins σ H s e s' I hq
  | ok fl =>
    cases fl with
    | ret u => exact I.after hq
    | next => exact False.elim hq
    | brk => exact False.elim hq
    | cont => exact False.elim hq

theorem pe_call (F : FnOk X.prog X.w X.K X.mg X.base CX k f fd ps sp) (hr : Room k X.A) (hg : Gl X x) (hm : X.mg x = some (.ref f)) (hk : PySem.W.keepIn X.K (.ref f) = true) (hb : Binds X.K fd ps ds) (hd : Vals dvs ds) (hx : Passes CX X E)
    (ha : PA X (e :: es) t) (hdb : (x == ("__debug__" : Str)) = false := by decide) (he : starEach (e :: es) X.env = (false, eval e X.env) :: starEach es X.env := by rfl) (hpl : (backTo pos (starEach es X.env)).any (·.1) = false := by rfl) :
    PE X (.Call (.Name x p) (e :: es) [] pos) (tCall sp dvs E t) := by
  intro pins s σ H Q I h
  refine wpAny_Call_Name_kw (ld_glob I hg hm ?_ hdb)
  refine PySem.W.callWith_K (h₀ := X.base) I.ok.mod.kin hk (thn (ha pos pins s σ H _ I h) fun us s1 ⟨vs, H1, I1, r, q⟩ => ⟨I1.kIn, ?_⟩) he hpl
  exact run_fn F hr hb hd hx I1 r q
/-- what a class must have to be made -/
structure Mk (K : PySem.W.Frag) (C f : Addr) : Prop where
  makes : PySem.W.makesIn K C = true
  init : PySem.W.findIn K (.ref C) "__init__" = some (some (.ref f))
  fn : PySem.W.isFn K (.ref f) = true
  kp : PySem.W.keepIn K (.ref C) = true

end

/-! ### keywords -/
/-- the values of the keywords, from the left -/
def PK (X : Cx) (kws : List Keyword) (t : TA) : Prop :=
  ∀ (pos : Pos) (pins : List (Addr × Obj)) (s : Shared) (σ : St) (H : Hp) (Q : List V → Hp → Prop), Inv X pins σ H s → t σ H Q → wpAny (model X.prog X.w) X.A (evalAll ((backToKw pos (keywordEach kws X.env)).map (·.2))) (AP X pins σ Q) X.xe s
section
variable {X : Cx} {CX : CXT} {k : Nat} {f C : Addr} {fd : FuncData} {ps ks : List Str} {sp : Sp} {E : XK} {x m : Str} {p pos apos kpos : Pos} {e o : Expr} {es : List Expr} {kws : List Keyword} {te ta : TE} {t tk : TA} {nm : Option Str}
/-- how a call with keywords binds: g puts the positional values us and the keywords' values ws (names ks) in the parameters' order, defaults among them -/
structure KBinds (K : PySem.W.Frag) (fd : FuncData) (ps ks : List Str) (g : List Value → List Value → List Value) (gV : List V → List V → List V) : Prop where
  to : ∀ (s : Shared) (us ws : List Value), K.In s.heap → (g us ws).length = ps.length → BindsTo s fd ⟨us, ks.zip ws⟩ (ps.zip (g us ws))
  rel : ∀ {vs : List V} {us : List Value} {zs : List V} {ws : List Value}, Vals vs us → Vals zs ws → Vals (gV vs zs) (g us ws)
def tCallK (sp : Sp) (gV : List V → List V → List V) (E : XK) (t tk : TA) : TE := fun σ H Q => t σ H fun vs H1 => tk σ H1 fun zs H2 => sp (gV vs zs) H2 Q E
variable {g : List Value → List Value → List Value} {gV : List V → List V → List V}
end

/-! ### a def's body keeps its promise -/
/-- names: the parameters first -/
structure FnScope (N P : List Str) (sc : Scope) : Prop where
  kind : sc.kind = .function
  co : sc.isCoroutine = false
  gen : sc.isGenerator = false
  nd : N.Nodup
  pre : N.take P.length = P
  par : ∀ x ∈ P, sc.names.lookup x = some .local ∨ sc.names.lookup x = some .cell
  nofree : ∀ y ∈ sc.names, y.2 ≠ .free

theorem bindL_out {kindOf : Str → Option NameKind} {x : Str} : ∀ {binds : List (Str × Value)} {m : Str → Option Value}, (∀ v, (x, v) ∉ binds) → bindL kindOf binds m x = m x
  | [], _, _ => rfl
  | (n, v) :: r, m, h => by
    unfold bindL
    rw [bindL_out fun w hw => h w (List.mem_cons_of_mem _ hw)]
    split
    · have : x ≠ n := by rintro rfl; exact h v List.mem_cons_self
      simp [this]
    · rfl
theorem bindC_out {kindOf : Str → Option NameKind} {x : Str} : ∀ {binds : List (Str × Value)} {m : Str → Option Value}, (∀ v, (x, v) ∉ binds) → bindC kindOf binds m x = m x
  | [], _, _ => rfl
  | (n, v) :: r, m, h => by
    unfold bindC
    rw [bindC_out fun w hw => h w (List.mem_cons_of_mem _ hw)]
    split
    · rfl
    · have : x ≠ n := by rintro rfl; exact h v List.mem_cons_self
      simp [this]
theorem bindL_get {kindOf : Str → Option NameKind} {x : Str} {v : Value} : ∀ {P : List Str} {vs : List Value} {i : Nat} {m : Str → Option Value}, P.Nodup → P[i]? = some x → vs[i]? = some v → kindOf x = some .local →
    bindL kindOf (P.zip vs) m x = some v
  | [], _, _, _, _, h, _, _ => by simp at h
  | _ :: _, [], _, _, _, _, h, _ => by simp at h
  | p :: P, w :: vs, 0, m, nd, h1, h2, hk => by
    simp at h1 h2; subst h1; subst h2
    show bindL kindOf ((p, w) :: P.zip vs) m p = _
    unfold bindL
    rw [bindL_out fun v hv => (List.nodup_cons.mp nd).1 (List.of_mem_zip hv).1, if_pos hk]
    simp
  | p :: P, w :: vs, i + 1, m, nd, h1, h2, hk => by
    show bindL kindOf ((p, w) :: P.zip vs) m x = _
    unfold bindL
    exact bindL_get (i := i) (List.nodup_cons.mp nd).2 (by simpa using h1) (by simpa using h2) hk
theorem bindC_get {kindOf : Str → Option NameKind} {x : Str} {v : Value} : ∀ {P : List Str} {vs : List Value} {i : Nat} {m : Str → Option Value}, P.Nodup → P[i]? = some x → vs[i]? = some v → kindOf x ≠ some .local →
    bindC kindOf (P.zip vs) m x = some v
  | [], _, _, _, _, h, _, _ => by simp at h
  | _ :: _, [], _, _, _, _, h, _ => by simp at h
  | p :: P, w :: vs, 0, m, nd, h1, h2, hk => by
    simp at h1 h2; subst h1; subst h2
    show bindC kindOf ((p, w) :: P.zip vs) m p = _
    unfold bindC
    rw [bindC_out fun v hv => (List.nodup_cons.mp nd).1 (List.of_mem_zip hv).1, if_neg hk]
    simp
  | p :: P, w :: vs, i + 1, m, nd, h1, h2, hk => by
    show bindC kindOf ((p, w) :: P.zip vs) m x = _
    unfold bindC
    exact bindC_get (i := i) (List.nodup_cons.mp nd).2 (by simpa using h1) (by simpa using h2) hk

/-- the names' values at the entry -/
def start (N : List Str) (vs : List V) : St := vs.map some ++ List.replicate (N.length - vs.length) none

/-- the context of a def's body, at its entry; an exception leaves the frame, then lies as CX says -/
def cxOf (CX : CXT) (P : Program) (w : World) (K : PySem.W.Frag) (mg : Str → Option Value) (base : Heap) (N : List Str) (qual : Str) (scope : Scope) (f : Addr) (cd : Value) (A : Around) (outer : List Env) (s : Shared) (H : Hp) (E : XK) : Cx where
  prog := P
  w := w
  K := K
  mg := mg
  base := base
  A := A.deeper (envOfC qual scope s.heap.objs.size f cd)
  N := N
  s₀ := s
  H₀ := H
  env := envOfC qual scope s.heap.objs.size f cd
  outer := outer
  stack := envOfC qual scope s.heap.objs.size f cd :: outer
  ex := []
  calm := true
  fn := fun _ => true
  pn := []
  xe := fun e s' => wpAny (model P w) (A.deeper (envOfC qual scope s.heap.objs.size f cd)) (leaving (envOfC qual scope s.heap.objs.size f cd) e) (fun _ s'' => CX outer H s E e s'') (fun e' s'' => CX outer H s E e' s'') s'

theorem cell_has {sc : Scope} {n : Nat} {x : Str} (h : sc.names.lookup x = some .cell) : ∃ c, (cellsFrom n sc.names []).lookup x = some c := by
  have q := PySem.W.cellsFrom_some sc.names n [] (.inl h)
  exact Option.isSome_iff_exists.mp q

theorem inv_start {CX : CXT} {P : Program} {w : World} {K : PySem.W.Frag} {mg : Str → Option Value} {base : Heap} {N ps : List Str} {qual : Str} {scope : Scope} {f : Addr} {cd : Value} {A : Around} {outer : List Env} {s s1 : Shared} {H : Hp} {E : XK} {us : List Value} {vs : List V}
    (S : FnScope N ps scope) (hd : A.handled = none) (e0 : Env0 P w K mg base A outer s H) (hl : vs.length = ps.length) (r : Vals vs us)
    (x : InCallC s s.heap.objs.size (bindL (envOfC qual scope s.heap.objs.size f cd).kindOf (ps.zip us) fun _ => none) (cellsFrom (s.heap.objs.size + 1) scope.names []) (bindC (envOfC qual scope s.heap.objs.size f cd).kindOf (ps.zip us) fun _ => none) s1) :
    Inv (cxOf CX P w K mg base N qual scope f cd A outer s H E) [] (start N vs) H s1 := by
  have hpl : ps.length ≤ N.length := by have := congrArg List.length S.pre; rw [List.length_take] at this; omega
  obtain ⟨h1, tk, rfl, hk⟩ := x.done
  have noA : ∀ b : Addr, b ∉ (cxOf CX P w K mg base N qual scope f cd A outer s H E).ex := fun b z => absurd (show b ∈ ([] : List Addr) from z) (by simp)
  refine ⟨⟨e0.mod, S.kind, rfl, rfl, Nat.le_refl _, fun y z c h1 h2 => ?_, fun y hy => ?_, fun y c _ h => ?_, fun _ => hd, Around.frames_deeper e0.frames, .inr ⟨rfl, rfl⟩, fun b z => absurd z (noA b), e0.bs, e0.bsz, fun b _ _ => noA b, fun b z => absurd z (noA b), e0.funs, e0.frf⟩,
    rfl, e0.bare, Un.kept hk, ⟨_, x.toInCall.ns, fun i y v h1 h2 h3 => ?_⟩, fun y c h => ⟨_, x.cell y c h⟩, e0.hok.fresh (Nat.le_refl _), fun y c h => ?_, fun p hp => absurd (show p ∈ ([] : List (Addr × Obj)) from hp) (by simp), e0.hok.kept hk, ?_⟩
  · exact name_of_addr x.apart (PySem.mem_of_lookup h1) (PySem.mem_of_lookup h2)
  · have hy : scope.names.lookup y = some .cell ∨ scope.names.lookup y = some .free := hy
    rcases hy with hy | hy
    · exact cell_has hy
    · exact absurd rfl (S.nofree _ (PySem.mem_of_lookup hy))
  · exact Nat.le_of_lt (x.above y c (PySem.mem_of_lookup h))
  · have hi : i < vs.length := by
      unfold start at h2
      by_cases hi : i < vs.length
      · exact hi
      · rw [List.getElem?_append_right (by simpa using hi)] at h2
        rw [List.getElem?_replicate] at h2
        split at h2 <;> cases h2
    have ha : vs[i]? = some v := by
      unfold start at h2
      rw [List.getElem?_append_left (by simpa using hi), List.getElem?_map] at h2
      cases e : vs[i]? with
      | none => rw [e] at h2; cases h2
      | some a => rw [e] at h2; cases h2; rfl
    obtain ⟨u, hu, rv⟩ := r.get ha
    have hp : ps[i]? = some y := by
      rw [← S.pre, List.getElem?_take_of_lt (by omega)]; exact h1
    have ndP : ps.Nodup := by rw [← S.pre]; exact S.nd.sublist (List.take_sublist _ _)
    refine ⟨u, rv, ?_⟩
    rcases S.par y (List.mem_of_getElem? hp) with k | k
    · exact .inl ⟨k, bindL_get ndP hp hu k⟩
    · obtain ⟨c, e⟩ := cell_has (n := s.heap.objs.size + 1) k
      refine .inr ⟨.inl k, c, e, ?_⟩
      have q := x.cell y c e
      rw [bindC_get ndP hp hu (by show scope.names.lookup y ≠ _; rw [k]; decide)] at q
      exact q
  · exact e0.hok.fresh (Nat.le_of_lt (x.above y c (PySem.mem_of_lookup h)))
  · unfold start
    show _ = N.length
    rw [List.length_append, List.length_map, List.length_replicate]
    omega

/-- THE RULE: a def (or a method) of the text, by its body. The body's reading t is chosen for each entry; it is run at the parameters' values -/
theorem fn_of {CX : CXT} {P : Program} {w : World} {K : PySem.W.Frag} {mg : Str → Option Value} {base : Heap} {k : Nat} {f : Addr} {name qual : Str} {params : Arguments} {body : List Stmt} {scope : Scope} {dV kV doc pm cdv ct oc : Value} {an od : Option Addr}
    {osl : Array (Option Value)} {N ps : List Str} {sp : Sp} (lk : K.lookup f = some ⟨oc, od, .func (PySem.W.fnOf name qual params body scope dV kV doc pm an cdv ct), osl⟩) (hcd : PySem.W.codeIn K cdv qual = true) (S : FnScope N ps scope)
    (len : ∀ vs H Q E, sp vs H Q E → vs.length = ps.length)
    (hbody : ∀ (A : Around) (outer : List Env) (s : Shared) (H : Hp) (vs : List V) (Q : VK) (E : XK), Room k (A.deeper (envOfC qual scope s.heap.objs.size f cdv)) → sp vs H Q E →
      ∃ t, PSs (cxOf CX P w K mg base N qual scope f cdv A outer s H E) body t ∧ t { nx := fun _ H' => Q .non H', rt := Q } (start N vs) H) :
    FnOk P w K mg base CX (k + 1) f (PySem.W.fnOf name qual params body scope dV kV doc pm an cdv ct) ps sp := by
  refine ⟨len, fun A outer s H args us vs Q E hr e0 hb r hsp => ?_⟩
  have hl := len _ _ _ _ hsp
  have KX : K.In s.heap := e0.mod.kin.keeps fun b o e => (e0.bs b o e).1
  have lim : s.heap.NoLimit := e0.mod.nolimit.keeps fun b o e => (e0.bs b o e).1
  have hkind : ∀ y ∈ ps.zip us, scope.names.lookup y.1 = some .local ∨ (scope.names.lookup y.1 = some .cell ∧ ((cellsFrom (s.heap.objs.size + 1) scope.names []).lookup y.1).isSome = true) := fun ⟨n, v⟩ hy => by
    rcases S.par n (List.of_mem_zip hy).1 with q | q
    · exact .inl q
    · exact .inr ⟨q, PySem.W.cellsFrom_some _ _ _ (.inl q)⟩
  refine codeAny_call_function hr.depth (KX _ _ lk) rfl S.co S.gen rfl (PySem.W.codeRec_of KX hcd) (hb _ _ _ _ ?_)
  refine wpAny_newFunctionEnv_cells S.kind hkind fun env he s1 x => ?_
  subst he
  refine ⟨lim.keeps x.toInCall.keep, codeAny_func ?_⟩
  obtain ⟨t, ht, hq⟩ := hbody A outer s H vs Q E (hr.deeper _) hsp
  have I : Inv (cxOf CX P w K mg base N qual scope f cdv A outer s H E) [] (start N vs) H s1 := inv_start S hr.hd e0 hl r x
  refine wpAny_mono (ht [] s1 (start N vs) H _ I hq) (fun fl s' hs => ?_) fun e s' hs => hs
  have fin : ∀ {σ' : St} {H' : Hp} {v : V} {u : Value}, Inv (cxOf CX P w K mg base N qual scope f cdv A outer s H E) [] σ' H' s' → RelV v u → Q v H' → CE outer P w H s Q u s' :=
    fun {σ' H' v u} J rv q => ⟨v, H', J.os, J.bare, J.base, J.hok, rv, q⟩
  cases fl with
  | ret u =>
    obtain ⟨v, σ', H', J, rv, q⟩ := hs
    exact fin J rv q
  | next =>
    obtain ⟨σ', H', J, q⟩ := hs
    exact fin (v := V.non) (u := Value.none) J rfl q
  | brk =>
    obtain ⟨_, _, _, q⟩ := hs
    exact False.elim q
  | cont =>
    obtain ⟨_, _, _, q⟩ := hs
    exact False.elim q
end L2

namespace L2
open PySem PySem.Spec PyProof.Rows
section
variable {X : Cx} {x : Str} {p pos : Pos} {e : Expr} {es : List Expr} {t : TA} {id T : String} {r : List V → Hp → VK → Prop}

def tCB (r : List V → Hp → VK → Prop) (t : TA) : TE := fun σ H Q => t σ H fun vs H1 => r vs H1 Q
/-- f(e, ..), f a built-in function -/
theorem pe_callB (hc : CallR X (.builtin id) r) (hg : Gl X x) (hm : X.mg x = none) (hv : bootBuiltins x = some (.builtin id)) (ha : PA X (e :: es) t) (hn : x ≠ "__name__" := by decide) (hdb : (x == ("__debug__" : Str)) = false := by decide)
    (he : starEach (e :: es) X.env = (false, eval e X.env) :: starEach es X.env := by rfl) (hpl : (backTo pos (starEach es X.env)).any (·.1) = false := by rfl) : PE X (.Call (.Name x p) (e :: es) [] pos) (tCB r t) := by
  intro pins s σ H Q I h
  refine wpAny_Call_Name_kw (ld_blt I hg hm hv ?_ hn hdb)
  exact PyProof.Rows.callWith_builtin1 (thn (ha pos pins s σ H _ I h) fun us s1 ⟨vs, H1, I1, r1, q1⟩ => hc pins s1 σ H1 vs us Q I1 r1 q1) he hpl
/-- T(e, ..), T a built-in type -/
theorem pe_callTy (hc : CallR X (.type T) r) (hg : Gl X x) (hm : X.mg x = none) (hv : bootBuiltins x = some (.type T)) (ha : PA X (e :: es) t) (hn : x ≠ "__name__" := by decide) (hdb : (x == ("__debug__" : Str)) = false := by decide)
    (he : starEach (e :: es) X.env = (false, eval e X.env) :: starEach es X.env := by rfl) (hpl : (backTo pos (starEach es X.env)).any (·.1) = false := by rfl) : PE X (.Call (.Name x p) (e :: es) [] pos) (tCB r t) := by
  intro pins s σ H Q I h
  refine wpAny_Call_Name_kw (ld_blt I hg hm hv ?_ hn hdb)
  exact PyProof.Rows.callWith_type1 (thn (ha pos pins s σ H _ I h) fun us s1 ⟨vs, H1, I1, r1, q1⟩ => hc pins s1 σ H1 vs us Q I1 r1 q1) he hpl
end
end L2

namespace HT
open PySem PyProof.Rows

/-- t < u of tuples of ints -/
def lexLt : List Int → List Int → Bool
  | [], [] => false
  | [], _ :: _ => true
  | _ :: _, [] => false
  | x :: xs, y :: ys => if x = y then lexLt xs ys else decide (x < y)
section
open PySem.SeqAt
open PySem.AutoSeq1 (wpAny_loadPart')
open PySem.MeetsSeq PySem.MeetsSeq2 PySem.MeetsSeq3

end

section
variable {prog : Program} {w : World} {A : Around} {E : Value → Shared → Prop} {s : Shared}

/-! ### t[a:b], not the whole -/
/-- a slice's bound as a place among n (d where it is left out) -/
def sIx (n d : Nat) : Option Int → Nat
  | none => d
  | some v => if v < 0 then (v + (n : Int)).toNat else min v.toNat n
theorem sIx_none (n d : Nat) : sIx n d none = d := rfl
theorem sIx_nat (n d k : Nat) : sIx n d (some (k : Int)) = min k n := by
  show (if (k : Int) < 0 then ((k : Int) + (n : Int)).toNat else min (k : Int).toNat n) = min k n
  rw [if_neg (by omega), Int.toNat_natCast]
end
end HT

namespace L2
open PySem PySem.Spec PyProof.Rows

/-! ### the parts of a slice -/
abbrev TO := St → Hp → (Option Int → Hp → Prop) → Prop
/-- a slice's part (left out, or an int) -/
def PO (X : Cx) (e : Option Expr) (t : TO) : Prop :=
  ∀ (pins : List (Addr × Obj)) (s : Shared) (σ : St) (H : Hp) (Q : Option Int → Hp → Prop), Inv X pins σ H s → t σ H Q →
    wpAny (model X.prog X.w) X.A (evalPart e X.env) (fun u s' => ∃ o H', Inv X pins σ H' s' ∧ IsPart u o ∧ Q o H') X.xe s
def tNoPart : TO := fun _ H Q => Q none H
def tPart (t : TE) : TO := fun σ H Q => t σ H fun x H1 => ∃ i, x = .int i ∧ Q (some i) H1

section
variable {X : Cx} {e : Expr} {te : TE} {lo hi : Option Expr} {tl th : TO} {pos p2 : Pos}

theorem po_none : PO X none tNoPart := by
  intro pins s σ H Q I h
  rw [evalPart_none]
  exact wpAny_pure ⟨none, H, I, .none, h⟩
theorem po_some (h : PE X e te) : PO X (some e) (tPart te) := by
  intro pins s σ H Q I hw
  rw [evalPart_some]
  refine thn (h pins s σ H _ I hw) fun u s1 ⟨x, H1, I1, r1, q1⟩ => ?_
  obtain ⟨i, rfl, q⟩ := q1
  obtain ⟨t, rfl⟩ := r1
  exact ⟨some i, H1, I1, .int i t, q⟩

/-- what a slice of a value is, by values: the slice object stands at sl -/
def SlR (X : Cx) (r : V → Option Int → Option Int → Hp → VK → Prop) : Prop :=
  ∀ (pins : List (Addr × Obj)) (s : Shared) (σ : St) (H : Hp) (x : V) (v vl vu : Value) (lo hi : Option Int) (sl : Addr) (Q : VK), Inv X pins σ H s → RelV x v → s.heap.IsSliceOf sl vl vu .none → IsPart vl lo → IsPart vu hi → r x lo hi H Q →
    ∃ T id, typeLookup (.type T) "__getitem__" = pure (some (.builtin id)) ∧ s.TypeIs v T ∧ wpAny (model X.prog X.w) X.A (getItem v (.ref sl)) (EP X pins σ Q) X.xe s
theorem SlR.or {r r' : V → Option Int → Option Int → Hp → VK → Prop} (h : SlR X r) (h' : SlR X r') : SlR X (fun x lo hi H Q => r x lo hi H Q ∨ r' x lo hi H Q) := by
  intro pins s σ H x v vl vu lo hi sl Q I rx hs pl pu q
  rcases q with q | q
  · exact h pins s σ H x v vl vu lo hi sl Q I rx hs pl pu q
  · exact h' pins s σ H x v vl vu lo hi sl Q I rx hs pl pu q
def tSl (r : V → Option Int → Option Int → Hp → VK → Prop) (te : TE) (tl th : TO) : TE := fun σ H Q => te σ H fun x H1 => tl σ H1 fun l H2 => th σ H2 fun u H3 => r x l u H3 Q
/-- a[lo:hi], any a -/
theorem pe_slice {r : V → Option Int → Option Int → Hp → VK → Prop} (hr : SlR X r) (he : PE X e te) (hl : PO X lo tl) (hu : PO X hi th) : PE X (.Subscript e (.Slice lo hi none p2) pos) (tSl r te tl th) := by
  intro pins s σ H Q I h
  refine Subscript_ (thn (he pins s σ H _ I h) fun v s1 ⟨x, H1, I1, r1, q1⟩ => ?_)
  refine wpAny_Slice (thn (hl pins s1 σ H1 _ I1 q1) fun vl s2 ⟨l, H2, I2, pl, q2⟩ => thn (hu pins s2 σ H2 _ I2 q2) fun vu s3 ⟨u, H3, I3, pu, q3⟩ => ?_)
  rw [evalPart_none]
  refine wpAny_pure ?_
  have I4 : Inv X pins σ H3 { s3 with heap := s3.heap.push { cls := .type "slice", data := .fields #[vl, vu, .none] } } := I3.kept (t' := s3.toks) fun b ob q => Heap.get?_push_of_some _ q
  obtain ⟨T, id, hT, ht, hg⟩ := hr pins { s3 with heap := s3.heap.push { cls := .type "slice", data := .fields #[vl, vu, .none] } } σ H3 x v vl vu l u s3.heap.objs.size Q I4 r1 (Heap.IsSliceOf.new ..) pl pu q3
  show wpAny (model X.prog X.w) X.A (subscriptTail e (.Slice lo hi none p2) v (.ref s3.heap.objs.size)) (EP X pins σ Q) X.xe { s3 with heap := s3.heap.push { cls := .type "slice", data := .fields #[vl, vu, .none] } }
  exact tail_any (ops := [.ref s3.heap.objs.size, v]) ht hT hg (by with_unfolding_all rfl)

/-- the items of xs[lo:hi] -/
def cutV (xs : List V) (lo hi : Option Int) : List V := (xs.drop (HT.sIx xs.length 0 lo)).take (HT.sIx xs.length xs.length hi - HT.sIx xs.length 0 lo)
theorem cutV_length (xs : List V) (lo hi : Option Int) : (cutV xs lo hi).length ≤ xs.length := by
  unfold cutV
  rw [List.length_take, List.length_drop]
  omega
/-- t[lo:hi], not the whole of it (the whole would be t itself) -/
def rSlT (K : PySem.W.Frag) : V → Option Int → Option Int → Hp → VK → Prop := fun x lo hi H Q => ∃ a xs, x = .ref a ∧ SqT K H a xs ∧
  ¬ (HT.sIx xs.length 0 lo = 0 ∧ HT.sIx xs.length xs.length hi = xs.length) ∧ ∀ p, H p = none → Q (.ref p) (upd H p (.tup (cutV xs lo hi)))
/-! ### t < u, t + u -/
def rLtT (K : PySem.W.Frag) : R2 := fun x y H Q => ∃ a b ns ms, x = .ref a ∧ y = .ref b ∧ SqT K H a (ns.map V.int) ∧ SqT K H b (ms.map V.int) ∧ Q (.bl (HT.lexLt ns ms)) H
/-- t + u, t not empty: u empty gives t itself -/
def rCatT (K : PySem.W.Frag) : R2 := fun x y H Q => ∃ a b xs ys, x = .ref a ∧ y = .ref b ∧ SqT K H a xs ∧ SqT K H b ys ∧ xs ≠ [] ∧ xs.length + ys.length ≤ sizeLine ∧
  (ys = [] → Q (.ref a) H) ∧ (ys ≠ [] → ∀ p, H p = none → Q (.ref p) (upd H p (.tup (xs ++ ys))))
end
end L2

namespace L2
open PySem PySem.Spec PyProof.Rows

/-! ### places -/
/-- the place that an index of any sign means -/
def ixN (n : Nat) (i : Int) : Option Nat := if 0 ≤ i then (if i < n then some i.toNat else none) else if -(n : Int) ≤ i then some (i + n).toNat else none
def atI {α : Type} (xs : List α) (i : Int) : Option α := (ixN xs.length i).bind fun j => xs[j]?
theorem ixN_seq {n : Nat} {i : Int} {j : Nat} (h : ixN n i = some j) : seqIndex? i n = some j ∧ j < n ∧ -(n : Int) ≤ i ∧ i < n := by
  unfold ixN at h
  by_cases h0 : 0 ≤ i
  · rw [if_pos h0] at h
    by_cases h1 : i < n
    · rw [if_pos h1] at h
      have e : i.toNat = j := Option.some.inj h
      exact ⟨by rw [seqIndex_of h0 h1, e], by omega, by omega, h1⟩
    · rw [if_neg h1] at h; cases h
  · rw [if_neg h0] at h
    by_cases h1 : -(n : Int) ≤ i
    · rw [if_pos h1] at h
      have e : (i + n).toNat = j := Option.some.inj h
      exact ⟨by rw [seqIndex_neg (by omega) h1, e], by omega, h1, by omega⟩
    · rw [if_neg h1] at h; cases h
theorem atI_get {α : Type} {xs : List α} {i : Int} {v : α} (h : atI xs i = some v) : ∃ j, seqIndex? i xs.length = some j ∧ xs[j]? = some v ∧ j < xs.length ∧ -(xs.length : Int) ≤ i ∧ i < xs.length := by
  unfold atI at h
  cases e : ixN xs.length i with
  | none => rw [e] at h; cases h
  | some j =>
    rw [e] at h
    obtain ⟨h1, h2, h3, h4⟩ := ixN_seq e
    exact ⟨j, h1, h, h2, h3, h4⟩
theorem atI_nat {α : Type} {xs : List α} {j : Nat} {v : α} (h : xs[j]? = some v) : atI xs (j : Int) = some v := by
  have hj : j < xs.length := (List.getElem?_eq_some_iff.mp h).1
  have e : ixN xs.length (j : Int) = some j := by
    unfold ixN
    rw [if_pos (by omega), if_pos (by omega)]; simp
  unfold atI; rw [e]; exact h
/-! ### what may be subscripted -/
/-- what stands as an index of a plain subscript -/
def PlainIx (b : Expr) : Prop := ∀ o i, subscripted b false o i = operate [o, i] (getItem o i)
/-- a subscript by values -/
def IxR (X : Cx) (r : R2) : Prop :=
  ∀ (value slice : Expr) (pins : List (Addr × Obj)) (s : Shared) (σ : St) (H : Hp) (x y : V) (v u : Value) (Q : VK), Inv X pins σ H s → RelV x v → RelV y u → r x y H Q →
    subscripted slice false v u = operate [v, u] (getItem v u) → wpAny (model X.prog X.w) X.A (subscriptTail value slice v u) (EP X pins σ Q) X.xe s
/-- a call of a builtin's method by values: the receiver, the arguments -/
def MtR (X : Cx) (id : String) (r : V → List V → Hp → VK → Prop) : Prop :=
  ∀ (pins : List (Addr × Obj)) (s : Shared) (σ : St) (H : Hp) (x : V) (xs : List V) (v : Value) (us : List Value) (Q : VK), Inv X pins σ H s → RelV x v → Vals xs us → r x xs H Q →
    wpAny (model X.prog X.w) X.A (call (.builtin id) (v :: us)) (EP X pins σ Q) X.xe s
section
variable {X : Cx} {a b : Expr} {ta tb : TE} {pos : Pos}
theorem IxR.or {r r' : R2} (h : IxR X r) (h' : IxR X r') : IxR X (fun x y H Q => r x y H Q ∨ r' x y H Q) := by
  intro value slice pins s σ H x y v u Q I rx ry q hs
  rcases q with q | q
  · exact h value slice pins s σ H x y v u Q I rx ry q hs
  · exact h' value slice pins s σ H x y v u Q I rx ry q hs
theorem MtR.or {id : String} {r r' : V → List V → Hp → VK → Prop} (h : MtR X id r) (h' : MtR X id r') : MtR X id (fun x xs H Q => r x xs H Q ∨ r' x xs H Q) := by
  intro pins s σ H x xs v us Q I rx rs q
  rcases q with q | q
  · exact h pins s σ H x xs v us Q I rx rs q
  · exact h' pins s σ H x xs v us Q I rx rs q
/-- a[b] -/
theorem pe_ix {r : R2} (hr : IxR X r) (ha : PE X a ta) (hb : PE X b tb) (hs : PlainIx b) : PE X (.Subscript a b pos) (tOp r ta tb) := by
  intro pins s σ H Q I h
  exact Subscript_ (binT ha hb I h fun v u s2 x y H2 I2 rx ry q => hr a b pins s2 σ H2 x y v u Q I2 rx ry q (hs _ _))

def rIxL (K : PySem.W.Frag) : R2 := fun x y H Q => ∃ p xs i v, x = .ref p ∧ y = .int i ∧ SqL K H p xs ∧ atI xs i = some v ∧ Q v H
def rIxT (K : PySem.W.Frag) : R2 := fun x y H Q => ∃ p xs i v, x = .ref p ∧ y = .int i ∧ SqT K H p xs ∧ atI xs i = some v ∧ Q v H
def rIxS : R2 := fun x y H Q => ∃ z i c, x = .str z ∧ y = .int i ∧ z.length ≤ sizeLine ∧ atI z.cps.toList i = some c ∧ Q (.str ⟨#[c]⟩) H
theorem ix_list : IxR X (rIxL X.K) := by
  intro value slice pins s σ H x y v u Q I rx ry h hs
  obtain ⟨p, xs, i, z, rfl, rfl, hq, he, q⟩ := h
  cases rx
  obtain ⟨t, rfl⟩ := ry
  obtain ⟨its, r, pl, hz⟩ := I.list hq
  obtain ⟨j, h1, h2, h3, h4, h5⟩ := atI_get he
  obtain ⟨w, ew, rw'⟩ := r.get h2
  have hl := r.length
  have hn := line63
  have fin : EP X pins σ Q w s := ⟨z, H, I, rw', q⟩
  by_cases h0 : 0 ≤ i
  · have hj : i.toNat = j := by
      rw [seqIndex_of h0 h5] at h1
      exact Option.some.inj h1
    exact item_listR pl.isList h0 (by omega) (by rw [hj]; simpa using ew) fin hs
  · have hj : (i + (its.toArray.size : Int)).toNat = j := by
      rw [seqIndex_neg (by omega) h4] at h1
      rw [List.size_toArray, ← hl]
      exact Option.some.inj h1
    exact subscriptTail_builtinR (x := w) pl.isList.typeIs slot_list_getitem.lookup
      (wpAny_getItem_list_neg (Q := fun r s' => r = w ∧ EP X pins σ Q r s') pl.isList (by omega) (by rw [List.size_toArray] <;> omega) (by omega) (by rw [hj]; simpa using ew) ⟨rfl, fin⟩) hs
theorem ix_tup : IxR X (rIxT X.K) := by
  intro value slice pins s σ H x y v u Q I rx ry h hs
  obtain ⟨p, xs, i, z, rfl, rfl, hq, he, q⟩ := h
  cases rx
  obtain ⟨t, rfl⟩ := ry
  obtain ⟨its, r, pl, hz⟩ := I.tuple hq
  obtain ⟨j, h1, h2, h3, h4, h5⟩ := atI_get he
  obtain ⟨w, ew, rw'⟩ := r.get h2
  have hl := r.length
  have hn := line63
  have fin : EP X pins σ Q w s := ⟨z, H, I, rw', q⟩
  exact subscriptTail_builtinR (x := w) pl.typeIs slot_tuple_getitem.lookup
    (getItem_tuple (j := j) (Q := fun r s' => r = w ∧ EP X pins σ Q r s') pl (by omega) (by omega) (by rw [List.size_toArray, ← hl]; exact h1) (by simpa using ew) ⟨rfl, fin⟩) hs
theorem ix_str : IxR X rIxS := by
  intro value slice pins s σ H x y v u Q I rx ry h hs
  obtain ⟨z, i, c, rfl, rfl, hz, he, q⟩ := h
  obtain ⟨t, rfl⟩ := rx
  obtain ⟨t', rfl⟩ := ry
  obtain ⟨j, h1, h2, h3, h4, h5⟩ := atI_get he
  have hl : z.cps.toList.length = z.length := by simp [Str.length]
  rw [hl] at h1 h4 h5
  have hn := line63
  exact tail_any (typeIs_str s z t) slot_str_getitem.lookup (getItem_str (c := c) (by
    have e1 : decide (i < -(2 ^ 63 : Int)) = false := decide_eq_false (by omega)
    have e2 : decide (i ≥ 2 ^ 63) = false := decide_eq_false (by omega)
    rw [e1, e2, Bool.or_false]) (by rw [h1]; simpa using h2) ⟨.str ⟨#[c]⟩, H, I.tok _, ⟨_, rfl⟩, q⟩) hs
/-- list, tuple or str -/
def rIx (K : PySem.W.Frag) : R2 := fun x y H Q => rIxL K x y H Q ∨ rIxT K x y H Q ∨ rIxS x y H Q
theorem ix_seq : IxR X (rIx X.K) := ix_list.or (ix_tup.or ix_str)

/-! ### xs[i] = v, any sign -/
/-- the list's object behind a store -/
theorem mapSeq_set (its : List Value) (n j : Nat) (u : Value) : Obj.mapSeq (·.setIfInBounds j u) { cls := .type "list", data := .seq its.toArray n } = { cls := .type "list", data := .seq (its.set j u).toArray n } := by
  simp [Obj.mapSeq]
theorem Inv.lst {pins : List (Addr × Obj)} {σ : St} {H : Hp} {s : Shared} {p : Addr} {xs : List V} (I : Inv X pins σ H s) (h : H p = some (.lst xs)) :
    ∃ (its : List Value) (n : Nat), Vals xs its ∧ s.heap.get? p = some { cls := .type "list", data := .seq its.toArray n } ∧ xs.length ≤ sizeLine := by
  obtain ⟨z, its, n, r, e⟩ := I.hok p _ h
  exact ⟨its, n, r, e, z⟩
/-- the list at p is written by an update of its object -/
theorem Inv.lstUpd {pins : List (Addr × Obj)} {σ : St} {H : Hp} {s : Shared} {p : Addr} {xs ys : List V} {its its' : List Value} {n n' : Nat} {f : Obj → Obj} (I : Inv X pins σ H s) (h : H p = some (.lst xs))
    (ho : s.heap.get? p = some { cls := .type "list", data := .seq its.toArray n }) (hf : f { cls := .type "list", data := .seq its.toArray n } = { cls := .type "list", data := .seq its'.toArray n' }) (r : Vals ys its') (hz : ys.length ≤ sizeLine) (t : Nat) :
    Inv X pins σ (upd H p (.lst ys)) { s with heap := s.heap.update p f, toks := t } := by
  have e : (s.heap.update p f).get? p = some { cls := .type "list", data := .seq its'.toArray n' } := by
    rw [Heap.get?_update_self f ho (by rw [hf] <;> rfl), hf]
  refine I.write (x := p) (e := p) (by rw [h]; trivial) (.inl rfl) (fun b u hb q => (Heap.get?_update_other _ _ (Ne.symm hb)).trans q) ⟨_, e⟩ ?_
  exact ⟨hz, its', n', r, e⟩
def rSetL : V → V → V → Hp → (Hp → Prop) → Prop := fun o i v H Q => ∃ p xs k j, o = .ref p ∧ i = .int k ∧ H p = some (.lst xs) ∧ ixN xs.length k = some j ∧ Q (upd H p (.lst (xs.set j v)))
theorem set_list : PSet X rSetL := by
  intro pins s σ H o i v ov iv u Q I ro ri rv h
  obtain ⟨p, xs, k, j, rfl, rfl, hp, hj, q⟩ := h
  cases ro
  obtain ⟨t, rfl⟩ := ri
  obtain ⟨its, n, r, ho, hz⟩ := I.lst hp
  obtain ⟨h1, h2, h3, h4⟩ := ixN_seq hj
  have hl := r.length
  have hn := line63
  have I' : Inv X pins σ (upd H p (.lst (xs.set j v))) { s with heap := s.heap.update p (Obj.mapSeq (·.setIfInBounds j u)) } :=
    I.lstUpd hp ho (mapSeq_set its n j u) (r.set rv j) (by rw [List.length_set]; exact hz) s.toks
  by_cases h0 : 0 ≤ k
  · have hk : k.toNat = j := by
      rw [seqIndex_of h0 h4] at h1
      exact Option.some.inj h1
    exact PySem.W.ki_setAt ho h0 (by omega) (by rw [List.size_toArray, ← hl]; exact h4) (by rw [hk]; exact ⟨_, I', q⟩)
  · have hk : (k + (its.toArray.size : Int)).toNat = j := by
      rw [seqIndex_neg (by omega) h3] at h1
      rw [List.size_toArray, ← hl]
      exact Option.some.inj h1
    exact PySem.W.ki_setBack ho (by omega) (by rw [List.size_toArray, ← hl]; exact h3) (by omega) (by rw [hk]; exact ⟨_, I', q⟩)

/-! ### slices -/
theorem slice_bounds (lo hi : Option Int) (n : Nat) : (sliceBounds lo hi none n).1 = ((HT.sIx n 0 lo : Nat) : Int) ∧ (sliceBounds lo hi none n).2.1 = ((HT.sIx n n hi : Nat) : Int) ∧ (sliceBounds lo hi none n).2.2 = 1 := by
  refine ⟨?_, ?_, rfl⟩
  · cases lo with
    | none => simp [sliceBounds, HT.sIx]
    | some i =>
      simp only [sliceBounds, HT.sIx, Option.getD_none, show (1 : Int) > 0 by decide, if_true]
      by_cases h : i < 0
      · simp only [h, if_true] <;> omega
      · simp only [h, if_false] <;> omega
  · cases hi with
    | none => simp [sliceBounds, HT.sIx]
    | some i =>
      simp only [sliceBounds, HT.sIx, Option.getD_none, show (1 : Int) > 0 by decide, if_true]
      by_cases h : i < 0
      · simp only [h, if_true] <;> omega
      · simp only [h, if_false] <;> omega
theorem slicePick_cut (its : List Value) (lo hi : Option Int) : slicePick its.toArray lo hi none = ((its.drop (HT.sIx its.length 0 lo)).take (HT.sIx its.length its.length hi - HT.sIx its.length 0 lo)).toArray := by
  obtain ⟨h1, h2, h3⟩ := slice_bounds lo hi its.toArray.size
  unfold slicePick
  rw [h1, h2, h3]
  simp only [sliceRange_one, pick_run, List.size_toArray] <;> rfl
/-- xs[lo:hi] of a list: a new list -/
def rSlL (K : PySem.W.Frag) : V → Option Int → Option Int → Hp → VK → Prop := fun x lo hi H Q => ∃ a xs, x = .ref a ∧ SqL K H a xs ∧ ∀ p, H p = none → Q (.ref p) (upd H p (.lst (cutV xs lo hi)))
theorem sl_list : SlR X (rSlL X.K) := by
  intro pins s σ H x v vl vu lo hi sl Q I rx hs pl pu h
  obtain ⟨a, xs, rfl, hx, q⟩ := h
  cases rx
  obtain ⟨its, r, ht, hz⟩ := I.list hx
  have hlen := r.length
  refine ⟨"list", _, slot_list_getitem.lookup, ht.isList.typeIs, ?_⟩
  refine wpAny_getItem_list_slice ht.isList hs pl pu .none (by simp) ?_ (by rw [List.size_toArray] <;> omega)
  rw [slicePick_cut, ← hlen]
  refine ⟨.ref s.heap.objs.size, _, I.laid (t' := s.toks) (o := .lst (cutV xs lo hi)) (fun b ob q => Heap.get?_push_of_some _ q) (Nat.le_refl _) ?_, rfl, q _ (I.hok.fresh (Nat.le_refl _))⟩
  exact ⟨Nat.le_trans (cutV_length xs lo hi) hz, _, 0, (r.drop (HT.sIx xs.length 0 lo)).take (HT.sIx xs.length xs.length hi - HT.sIx xs.length 0 lo), Heap.get?_push_size _ rfl⟩

/-! ### in, not in: flat items -/
def flatV : V → Bool
  | .non => true
  | .bl _ => true
  | .int _ => true
  | .str _ => true
  | _ => false
/-- == of flat values -/
def eqV : V → V → Bool
  | .non, .non => true
  | .bl a, .bl b => a == b
  | .bl a, .int b => (if a then 1 else 0) == b
  | .int a, .bl b => a == (if b then 1 else 0)
  | .int a, .int b => a == b
  | .str a, .str b => a == b
  | _, _ => false
/-- the items' answers, read off the values (a value's own answer does not lean on its token) -/
def eqU (x : V) (u : Value) : Bool := match u with
  | .none => eqV .non x
  | .bool b => eqV (.bl b) x
  | .int i _ => eqV (.int i) x
  | .str z _ => eqV (.str z) x
  | _ => false
def inV (x : V) (xs : List V) : Bool := xs.any fun y => eqV y x
/-- x in a list or tuple of flat items -/
def rIn (K : PySem.W.Frag) (neg : Bool) : R2 := fun x y H Q => ∃ p xs, y = .ref p ∧ (SqL K H p xs ∨ SqT K H p xs) ∧ flatV x = true ∧ xs.all flatV = true ∧ Q (.bl (if neg then !inV x xs else inV x xs)) H
/-! ### len, list(x), tuple(x) of any list or tuple that is read -/
theorem call_len_seq : CallR X (.builtin "len") (fun xs H Q => ∃ p ys, xs = [.ref p] ∧ (SqL X.K H p ys ∨ SqT X.K H p ys) ∧ Q (.int ys.length) H) := by
  intro pins s σ H xs us Q I r h
  obtain ⟨p, ys, rfl, hq, q⟩ := h
  obtain ⟨u, rfl, rx⟩ := vals1 r
  cases rx
  have hn := line63
  rcases hq with hq | hq
  · obtain ⟨its, r', pl, hz⟩ := I.list hq
    have hlen := r'.length
    exact Calls.call_len_list pl.isList (by simp only [List.size_toArray] <;> omega) ⟨.int ys.length, H, I.tok _, ⟨s.toks + 1, by rw [List.size_toArray, hlen]⟩, q⟩
  · obtain ⟨its, r', pl, hz⟩ := I.tuple hq
    have hlen := r'.length
    exact len_tuple pl (by simp only [List.size_toArray] <;> omega) ⟨.int ys.length, H, I.tok _, ⟨s.toks + 1, by rw [List.size_toArray, hlen]⟩, q⟩
theorem call_len_str : CallR X (.builtin "len") (fun xs H Q => ∃ z, xs = [.str z] ∧ z.length ≤ sizeLine ∧ Q (.int z.length) H) := by
  intro pins s σ H xs us Q I r h
  obtain ⟨z, rfl, hz, q⟩ := h
  obtain ⟨u, rfl, t, rfl⟩ := vals1 r
  have hn := line63
  exact len_str (by omega) ⟨.int z.length, H, I.tok _, ⟨_, rfl⟩, q⟩
theorem CallR.or {f : Value} {r r' : List V → Hp → VK → Prop} (h : CallR X f r) (h' : CallR X f r') : CallR X f (fun xs H Q => r xs H Q ∨ r' xs H Q) := by
  intro pins s σ H xs us Q I rs q
  rcases q with q | q
  · exact h pins s σ H xs us Q I rs q
  · exact h' pins s σ H xs us Q I rs q
theorem call_tuple_of : CallR X (.type "tuple") (fun xs H Q => ∃ p ys, xs = [.ref p] ∧ ((SqL X.K H p ys ∧ ∀ l, H l = none → Q (.ref l) (upd H l (.tup ys))) ∨ (SqT X.K H p ys ∧ Q (.ref p) H))) := by
  intro pins s σ H xs us Q I r h
  obtain ⟨p, ys, rfl, h⟩ := h
  obtain ⟨u, rfl, rx⟩ := vals1 r
  cases rx
  rcases h with ⟨hq, q⟩ | ⟨hq, q⟩
  · obtain ⟨its, r', pl, hz⟩ := I.list hq
    have hlen := r'.length
    refine call_tuple_list pl.isList (fun h' kp => ?_) (by simp only [List.size_toArray] <;> omega)
    have I1 : Inv X pins σ H { s with heap := h' } := I.kept (t' := s.toks) kp
    have I2 : Inv X pins σ (upd H h'.objs.size (.tup ys)) { s with heap := h'.push { cls := .type "tuple", data := .seq its.toArray } } :=
      I1.laid (t' := s.toks) (fun b o e => Heap.get?_push_of_some _ e) (Nat.le_refl _) (show ObjOk X.prog X.w _ _ _ (.tup ys) from ⟨hz, its, r', IsTup.new _ _⟩)
    exact ⟨.ref h'.objs.size, _, I2, rfl, q _ (I1.hok.fresh (Nat.le_refl _))⟩
  · obtain ⟨its, r', pl, hz⟩ := I.tuple hq
    exact call_tuple_same pl ⟨.ref p, H, I, rfl, q⟩

/-! ### the call of a builtin's method: o.m(..) -/
/-- the value is of that builtin type -/
def tyV (K : PySem.W.Frag) (T : String) (x : V) (H : Hp) : Prop := match x with
  | .str _ => T = "str"
  | .int _ => T = "int"
  | .ref p => (T = "list" ∧ ∃ xs, SqL K H p xs) ∨ (T = "tuple" ∧ ∃ o, K.lookup p = some o ∧ o.cls = .type "tuple" ∧ o.dict = none) ∨
      (T = "dict" ∧ ((∃ kvs, H p = some (.dK kvs)) ∨ ∃ kvs, H p = some (.dT kvs))) ∨ (T = "set" ∧ ∃ S n, H p = some (.set S n))
  | _ => False
theorem tyV_is {pins : List (Addr × Obj)} {σ : St} {H : Hp} {s : Shared} {T : String} {x : V} {v : Value} (I : Inv X pins σ H s) (r : RelV x v) (ty : tyV X.K T x H) :
    s.TypeIs v T ∧ ∀ a, v = .ref a → ∃ ob, s.heap.get? a = some ob ∧ ob.dict = none := by
  cases x with
  | str z =>
    obtain ⟨t, rfl⟩ := r
    cases (show T = "str" from ty)
    exact ⟨typeIs_str s z t, fun _ e => nomatch e⟩
  | int i =>
    obtain ⟨t, rfl⟩ := r
    cases (show T = "int" from ty)
    exact ⟨typeIs_int s i t, fun _ e => nomatch e⟩
  | ref p =>
    cases r
    rcases ty with ⟨rfl, xs, hq⟩ | ⟨rfl, o, hk, hc, hd⟩ | ⟨rfl, hk⟩ | ⟨rfl, S, n, hk⟩
    · obtain ⟨its, _, pl, _⟩ := I.list hq
      refine ⟨pl.isList.typeIs, fun a e => ?_⟩
      cases e
      obtain ⟨o, n, e, c, hd, _⟩ := pl
      exact ⟨o, e, hd⟩
    · refine ⟨⟨o, I.kIn p o hk, hc⟩, fun a e => ?_⟩
      cases e
      exact ⟨o, I.kIn _ o hk, hd⟩
    · have z : ∃ o, s.heap.get? p = some o ∧ o.ExactDict := by
        rcases hk with ⟨kvs, hk⟩ | ⟨kvs, hk⟩
        · obtain ⟨_, _, _, _, o, _, _, e, ex, _⟩ := I.hok p _ hk
          exact ⟨o, e, ex⟩
        · obtain ⟨_, _, _, _, o, _, _, e, ex, _⟩ := I.hok p _ hk
          exact ⟨o, e, ex⟩
      obtain ⟨o, e, ex⟩ := z
      refine ⟨⟨o, e, ex.1⟩, fun a e2 => ?_⟩
      cases e2
      exact ⟨o, e, ex.2.1⟩
    · obtain ⟨o, _, _, _, e, ex, _⟩ := I.hok p _ hk
      refine ⟨⟨o, e, ex.1⟩, fun a e2 => ?_⟩
      cases e2
      exact ⟨o, e, ex.2.1⟩
  | _ => exact False.elim ty
def tBM0 (K : PySem.W.Frag) (T : String) (r : V → List V → Hp → VK → Prop) (to : TE) : TE := fun σ H Q => to σ H fun x H1 => tyV K T x H1 ∧ r x [] H1 Q
def tBM (K : PySem.W.Frag) (T : String) (r : V → List V → Hp → VK → Prop) (to : TE) (t : TA) : TE := fun σ H Q => to σ H fun x H1 => tyV K T x H1 ∧ t σ H1 fun xs H2 => r x xs H2 Q
variable {o e : Expr} {es : List Expr} {to : TE} {t : TA} {name : Str} {apos cpos : Pos} {T id : String} {r : V → List V → Hp → VK → Prop}
theorem pe_bm0 (pa : PlainAttrs T) (slot : Slot T name id) (hty : typeOf (.builtin id) = pure (.type "method_descriptor")) (hm : MtR X id r) (ho : PE X o to)
    (hbase : attributeBase o name X.env (eval o X.env) = eval o X.env := by rfl) (hline : (apos.endLine == cpos.line) = true := by rfl) : PE X (.Call (.Attribute o name apos) [] [] cpos) (tBM0 X.K T r to) := by
  intro pins s σ H Q I h
  refine wpAny_Call_method0_late hbase hline (thn (ho pins s σ H _ I h) fun v s1 ⟨x, H1, I1, r1, ty, q1⟩ => ?_)
  obtain ⟨h1, h2⟩ := tyV_is I1 r1 ty
  exact ⟨T, id, pa, slot, hty, h1, h2, Calls.callWith_builtin rfl (PySem.evalArgs_none (hm pins s1 σ H1 x [] v [] Q I1 r1 .nil q1))⟩
theorem pe_bm (pa : PlainAttrs T) (slot : Slot T name id) (hty : typeOf (.builtin id) = pure (.type "method_descriptor")) (hm : MtR X id r) (ho : PE X o to) (ha : PA X (e :: es) t)
    (hbase : attributeBase o name X.env (eval o X.env) = eval o X.env := by rfl)
    (hfew : ((backTo cpos (starEach (e :: es) X.env)).all (fun x => !x.1) && (backToKw cpos (keywordEach [] X.env)).all (fun x => x.1.isSome)
      && decide ((e :: es).length + ([] : List Keyword).length + (if ([] : List Keyword).isEmpty then 0 else 1) < 30)) = true := by rfl)
    (hline : (apos.endLine == cpos.line) = true := by rfl) (hs : starEach (e :: es) X.env = (false, eval e X.env) :: starEach es X.env := by rfl) (hplain : (backTo cpos (starEach es X.env)).any (·.1) = false := by rfl) :
    PE X (.Call (.Attribute o name apos) (e :: es) [] cpos) (tBM X.K T r to t) := by
  intro pins s σ H Q I h
  refine wpAny_Call_method_late hbase hfew hline rfl (thn (ho pins s σ H _ I h) fun v s1 ⟨x, H1, I1, r1, ty, q1⟩ => ?_)
  obtain ⟨h1, h2⟩ := tyV_is I1 r1 ty
  refine ⟨T, id, pa, slot, hty, h1, h2, ?_⟩
  have hA := ha cpos pins s1 σ H1 _ I1 q1
  rw [hs] at hA ⊢
  refine Calls.callWith_builtin (by show (false || (backTo cpos (starEach es X.env)).any (·.1)) = false; rw [hplain] <;> rfl) (Calls.evalArgs_plain ?_)
  exact thn hA fun us s2 ⟨vs, H2, I2, r2, q2⟩ => hm pins s2 σ H2 x vs v us Q I2 r1 r2 q2
/- xs.append(e), list.index on a module's tuple .. are MtR facts of 06m -/
end
end L2

namespace L2
open PySem PySem.Spec PyProof.Rows

def MtM (X : Cx) (id : String) (r : V → List V → Hp → VK → Prop) : Prop :=
  ∀ (pins : List (Addr × Obj)) (s : Shared) (σ : St) (H : Hp) (x : V) (xs : List V) (v : Value) (us : List Value) (Q : VK), Inv X pins σ H s → RelV x v → Vals xs us → r x xs H Q →
    wpAny (model X.prog X.w) X.A (call (.builtin id) (v :: us)) (EP X pins σ Q) X.xe s

/-! ### lists of values -/
theorem Vals.one : ∀ {x : V} {us : List Value}, Vals [x] us → ∃ u, us = [u] ∧ RelV x u
  | _, _, .cons r .nil => ⟨_, rfl, r⟩
theorem Vals.two : ∀ {x y : V} {us : List Value}, Vals [x, y] us → ∃ u v, us = [u, v] ∧ RelV x u ∧ RelV y v
  | _, _, _, .cons r (.cons q .nil) => ⟨_, _, rfl, r, q⟩
theorem Vals.zero : ∀ {us : List Value}, Vals [] us → us = []
  | _, .nil => rfl
theorem Vals.dropLast {xs : List V} {us : List Value} (h : Vals xs us) : Vals xs.dropLast us.dropLast := by
  induction h with
  | nil => exact .nil
  | cons r t ih =>
    cases t with
    | nil => exact .nil
    | cons q t' => exact .cons r ih
theorem Vals.eraseIdx : ∀ {xs : List V} {us : List Value} (i : Nat), Vals xs us → Vals (xs.eraseIdx i) (us.eraseIdx i)
  | _, _, _, .nil => .nil
  | _, _, 0, .cons _ t => t
  | _, _, i + 1, .cons r t => .cons r (Vals.eraseIdx i t)
theorem Vals.reverse {xs : List V} {us : List Value} (h : Vals xs us) : Vals xs.reverse us.reverse := by
  induction h with
  | nil => exact .nil
  | cons r t ih => rw [List.reverse_cons, List.reverse_cons]; exact Vals.append ih (.cons r .nil)
theorem Vals.rep {xs : List V} {us : List Value} (h : Vals xs us) : ∀ k : Nat, Vals (List.replicate k xs).flatten (List.replicate k us).flatten
  | 0 => .nil
  | k + 1 => by
    rw [List.replicate_succ, List.replicate_succ, List.flatten_cons, List.flatten_cons]
    exact Vals.append h (Vals.rep h k)
theorem erase_last {α : Type} (l : List α) : l.eraseIdx (l.length - 1) = l.dropLast := by
  induction l with
  | nil => rfl
  | cons a r ih =>
    cases r with
    | nil => rfl
    | cons b r =>
      have e : (a :: b :: r).length - 1 = ((b :: r).length - 1) + 1 := by
        have h1 : (a :: b :: r).length = r.length + 2 := rfl
        have h2 : (b :: r).length = r.length + 1 := rfl
        omega
      rw [e, List.eraseIdx_cons_succ, ih]
      all_goals rfl
theorem foldl_rep (its : List Value) : ∀ (k : Nat) (acc : List Value),
    List.foldl (fun x1 x2 => x1 ++ x2) acc.toArray (List.replicate k its.toArray) = (acc ++ (List.replicate k its).flatten).toArray
  | 0, acc => by simp
  | k + 1, acc => by
    have e : acc.toArray ++ its.toArray = (acc ++ its).toArray := by simp
    have e2 : (acc ++ its) ++ (List.replicate k its).flatten = acc ++ (List.replicate (k + 1) its).flatten := by
      rw [List.replicate_succ, List.flatten_cons, List.append_assoc]
    rw [← e2, ← foldl_rep its k (acc ++ its), ← e, List.replicate_succ, List.foldl_cons]

section
variable {X : Cx} {pins : List (Addr × Obj)} {σ : St} {H : Hp} {s : Shared} {l b : Addr} {xs ys zs : List V}

/-! ### the two steps: a tracked list is rewritten, a new list is laid -/
theorem Inv.lset {its its' : List Value} {n : Nat} {f : Array Value → Array Value} {t' : Nat} (I : Inv X pins σ H s) (hH : H l = some (.lst xs))
    (e : s.heap.get? l = some { cls := .type "list", data := .seq its.toArray n }) (hf : f its.toArray = its'.toArray) (hv : Vals ys its') (hz : ys.length ≤ sizeLine) :
    Inv X pins σ (upd H l (.lst ys)) { s with heap := s.heap.update l (Obj.mapSeq f), toks := t' } := by
  have q := PySem.IsL.update e f
  rw [hf] at q
  refine I.write (x := l) (e := l) (by rw [hH]; exact trivial) (.inl rfl) (fun b' u hb hu => (Heap.get?_update_other s.heap (Obj.mapSeq f) (Ne.symm hb)).trans hu) ⟨_, q⟩ ?_
  exact ⟨hz, its', _, hv, q⟩
theorem Inv.lnew {its : List Value} {t' : Nat} (I : Inv X pins σ H s) (hv : Vals ys its) (hz : ys.length ≤ sizeLine) :
    Inv X pins σ (upd H s.heap.objs.size (.lst ys)) { s with heap := s.heap.push { cls := .type "list", data := .seq its.toArray }, toks := t' } :=
  I.laid (fun _ _ q => Heap.get?_push_of_some _ q) (Nat.le_refl _) ⟨hz, its, 0, hv, Heap.get?_push_size _ rfl⟩
theorem Inv.fresh (I : Inv X pins σ H s) : H s.heap.objs.size = none := I.hok.fresh (Nat.le_refl _)
theorem Inv.lstM (I : Inv X pins σ H s) (hH : H l = some (.lst xs)) : xs.length ≤ sizeLine ∧ ∃ (its : List Value) (n : Nat), Vals xs its ∧ xs.length = its.length ∧ s.heap.get? l = some { cls := .type "list", data := .seq its.toArray n } := by
  obtain ⟨z, its, n, r, e⟩ := I.hok l _ hH
  exact ⟨z, its, n, r, r.length, e⟩

theorem notLongL {n : Nat} (h : n ≤ sizeLine) : Builtin.List.listTooLong n = false := by
  unfold Builtin.List.listTooLong
  exact decide_eq_false (by omega)
end

section
variable {X : Cx}

/-! ### methods -/
def rAppend : V → List V → Hp → VK → Prop := fun x vs H Q => ∃ l xs y, x = .ref l ∧ vs = [y] ∧ H l = some (.lst xs) ∧ xs.length < sizeLine ∧ Q .non (upd H l (.lst (xs ++ [y])))
theorem mt_append : MtM X "list.append" rAppend := by
  intro pins s σ H x vs v us Q I rx rv h
  obtain ⟨l, xs, y, rfl, rfl, hH, hz, q⟩ := h
  cases rx
  obtain ⟨u, rfl, ru⟩ := rv.one
  obtain ⟨z, its, n, r, hl, e⟩ := I.lstM hH
  refine call_meets F.slot_list_append ⟨_, e, rfl⟩ F.entry_list_append (F.args_list_append_2 _ _) (PySem.list_append l its.toArray n u (by rw [List.size_toArray]; omega)) ⟨e, ?_⟩
  refine ⟨.non, _, I.lset (its' := its ++ [u]) hH e (by simp) (r.append (.cons ru .nil)) ?_, rfl, q⟩
  rw [List.length_append, List.length_singleton]
  omega

def rExtend : V → List V → Hp → VK → Prop := fun x vs H Q => ∃ l b xs zs, x = .ref l ∧ vs = [.ref b] ∧ H l = some (.lst xs) ∧ H b = some (.lst zs) ∧ xs.length + zs.length ≤ sizeLine ∧ Q .non (upd H l (.lst (xs ++ zs)))
def rPop : V → List V → Hp → VK → Prop := fun x vs H Q => ∃ l xs y, x = .ref l ∧ vs = [] ∧ H l = some (.lst xs) ∧ xs[xs.length - 1]? = some y ∧ Q y (upd H l (.lst xs.dropLast))
theorem mt_pop : MtM X "list.pop" rPop := by
  intro pins s σ H x vs v us Q I rx rv h
  obtain ⟨l, xs, y, rfl, rfl, hH, hy, q⟩ := h
  cases rx
  have hus := rv.zero
  subst hus
  obtain ⟨z, its, n, r, hl, e⟩ := I.lstM hH
  obtain ⟨u, hu, ru⟩ := r.get hy
  have hy' : its.toArray[its.toArray.size - 1]? = some u := by
    show its.toArray[its.length - 1]? = some u
    rw [← Array.getElem?_toList, ← hl]
    exact hu
  refine call_meets F.slot_list_pop ⟨_, e, rfl⟩ F.entry_list_pop (F.args_list_pop_1 _) (MeetsSeq.list_pop_last l its.toArray n u hy' (by rw [List.size_toArray]; omega)) ⟨e, ?_⟩
  refine ⟨y, _, I.lset (its' := its.dropLast) hH e ?_ r.dropLast ?_, ru, q⟩
  · show its.toArray.eraseIdxIfInBounds (its.toArray.size - 1) = its.dropLast.toArray
    rw [List.size_toArray, List.eraseIdxIfInBounds_toArray, erase_last]
  · rw [List.length_dropLast]
    omega

def rPopAt : V → List V → Hp → VK → Prop := fun x vs H Q => ∃ l xs i k y, x = .ref l ∧ vs = [.int i] ∧ H l = some (.lst xs) ∧ -(2 ^ 63) ≤ i ∧ i < 2 ^ 63 ∧ seqIndex? i xs.length = some k ∧ xs[k]? = some y ∧ Q y (upd H l (.lst (xs.eraseIdx k)))
def rReverse : V → List V → Hp → VK → Prop := fun x vs H Q => ∃ l xs, x = .ref l ∧ vs = [] ∧ H l = some (.lst xs) ∧ Q .non (upd H l (.lst xs.reverse))
def rClear : V → List V → Hp → VK → Prop := fun x vs H Q => ∃ l xs, x = .ref l ∧ vs = [] ∧ H l = some (.lst xs) ∧ Q .non (upd H l (.lst []))
/-! ### list + list, list += list, list * int -/
def rCat : R2 := fun x y H Q => ∃ l b xs zs, x = .ref l ∧ y = .ref b ∧ H l = some (.lst xs) ∧ H b = some (.lst zs) ∧ xs.length + zs.length ≤ sizeLine ∧ ∀ p, H p = none → Q (.ref p) (upd H p (.lst (xs ++ zs)))
theorem op_cat : OpR X (binaryOp .Add) rCat := by
  intro pins s σ H x y v u Q I rx ry h
  obtain ⟨l, b, xs, zs, rfl, rfl, hH, hB, hz, q⟩ := h
  cases rx
  cases ry
  obtain ⟨z, its, n, r, hl, e⟩ := I.lstM hH
  obtain ⟨z2, its2, n2, r2, hl2, e2⟩ := I.lstM hB
  refine PySem.P.add_list e e2 ?_ (by rw [List.size_toArray, List.size_toArray]; omega)
  have ea : its.toArray ++ its2.toArray = (its ++ its2).toArray := by simp
  rw [ea]
  exact ⟨.ref _, _, I.lnew (t' := s.toks) (r.append r2) (by rw [List.length_append]; omega), rfl, q _ I.fresh⟩
/-- a list times an int (a negative one is nothing) -/
def rRep : R2 := fun x y H Q => ∃ l k xs, x = .ref l ∧ y = .int k ∧ H l = some (.lst xs) ∧ -(2 ^ 63) ≤ k ∧ k < 2 ^ 63 ∧ xs.length * k.toNat ≤ sizeLine ∧
  ∀ p, H p = none → Q (.ref p) (upd H p (.lst (List.replicate k.toNat xs).flatten))
theorem len_rep {α : Type} (xs : List α) (k : Nat) : (List.replicate k xs).flatten.length = k * xs.length := by
  induction k with
  | zero => simp
  | succ k ih => rw [List.replicate_succ, List.flatten_cons, List.length_append, ih, Nat.succ_mul, Nat.add_comm]
theorem op_rep : OpR X (binaryOp .Mult) rRep := by
  intro pins s σ H x y v u Q I rx ry h
  obtain ⟨l, k, xs, rfl, rfl, hH, h1, h2, hz, q⟩ := h
  cases rx
  obtain ⟨t, rfl⟩ := ry
  obtain ⟨z, its, n, r, hl, e⟩ := I.lstM hH
  have hlen : its.toArray.size * k.toNat ≤ sizeLine := by rw [List.size_toArray, ← hl]; exact hz
  have hcap : ¬ its.toArray.size * k.toNat > (2 ^ 63 - 1) / 8 := by
    have : (sizeLine : Nat) ≤ (2 ^ 63 - 1) / 8 := by decide
    omega
  have hfit : ¬ (!Builtin.List.listFitsIndex k) = true := by
    rw [fitsIndex_both h1 h2]
    exact Bool.false_ne_true
  have hlong : ¬ Builtin.List.listTooLong (its.toArray.size * k.toNat) = true := by
    rw [notLongL hlen]
    exact Bool.false_ne_true
  have hnew : List.foldl (fun x1 x2 => x1 ++ x2) #[] (List.replicate (if its.toArray.isEmpty = true then 0 else k.toNat) its.toArray) = (List.replicate k.toNat its).flatten.toArray := by
    have f0 : ∀ m : Nat, List.foldl (fun x1 x2 => x1 ++ x2) #[] (List.replicate m its.toArray) = (List.replicate m its).flatten.toArray := fun m => by
      have := foldl_rep its m []
      rw [List.nil_append] at this
      exact this
    rw [f0]
    cases its with
    | nil => simp
    | cons a r' => rw [if_neg (by simp)]
  refine wpAny_binaryOp_repeat_ref (T := "list") (U := "int") (by decide) ⟨_, e, rfl⟩ (fun s' => typeIs_int s' k t) noFill_list_mul F.fills_int_mul F.slot_int_rmul repeat_list F.slot_int_index.lookup
    (call_meets F.slot_int_rmul (typeIs_int s k t) F.entry_int_rmul (F.args_int_rmul_2 _ _) (int___rmul___int_list k t l its.toArray n)
      ⟨e, rfl, ⟨_, e, rfl⟩, call_meets F.slot_list_mul ⟨_, e, rfl⟩ F.entry_list_mul (F.args_list_mul_2 _ _) (AutoListH.list___mul___list_int_3 l its.toArray n k t hfit hcap hlong) ⟨e, ?_⟩⟩)
  rw [hnew]
  exact ⟨.ref _, _, I.lnew (t' := s.toks) (r.rep k.toNat) (by rw [len_rep, Nat.mul_comm]; exact hz), rfl, q _ I.fresh⟩

/-! ### del xs[i] -/
end

/-! ### xs[a:b] = ys -/
section
variable {prog : Program} {w : World} {A : Around} {E : Value → Shared → Prop} {s : Shared}
end

section
variable {X : Cx}
end
end L2

namespace Att
open PySem PySem.W PySem.Calls PyProof.Rows

/-! ### the script -/
theorem ints_of_wellAll {P : Params} {h : Heap} : ∀ (ns : List Int) (vs : List Value), WellAll P h vs (ns.map WData.int) → IntsAre vs ns := by
  intro ns
  induction ns with
  | nil =>
    intro vs w
    rw [List.map_nil] at w
    cases w
    exact .nil
  | cons n ns ih =>
    intro vs w
    rw [List.map_cons] at w
    cases w with
    | cons a b =>
      cases a
      exact .cons _ _ (ih _ b)

theorem script_of {l : OpenLaw} {n : Nat} (hn : l.most = some n) {P : Params} {h : Heap} {args : List WData} {vals : List Value}
    (hpre : l.row.toRowW.claim.pre args = true) (hwl : WellAll P h vals args) :
    ∃ a vs ns, vals = [Value.ref a] ∧ args = [WData.list (ns.map WData.int)] ∧ h.get? a = some { cls := .type "list", data := .seq vs.toArray } ∧ IntsAre vs ns ∧ ns.length ≤ n := by
  have hsh : WShape.hasAll [] args [.list .int] = true := (pre_splitW hpre).1
  have hc : l.pre.holds [] { args := args } = true := (pre_splitW hpre).2
  obtain ⟨d, r, rfl, h1, h2⟩ := hasAllW_cons hsh
  obtain rfl := hasAllW_nil h2
  obtain ⟨xs, rfl, h3⟩ := hasW_list h1
  obtain ⟨ns, rfl⟩ := items_int h3
  have hlen : ns.length ≤ n := by
    unfold OpenLaw.pre at hc
    have h4 : (WTm.not (.lt (.lit (.int (n : Int))) (.len (.arg 0)))).holds [] { args := [.list (ns.map .int)] } = true := by
      have h4 := (holds_andW hc).1
      rw [hn] at h4
      exact h4
    have h5 := condW_of h4 (w_not (w_lt w_lit (w_len_list (w_arg rfl))))
    rw [List.length_map] at h5
    refine Nat.le_of_not_lt fun q => ?_
    have q' : (n : Int) < ((ns.length : Nat) : Int) := by omega
    first
      | (rw [decide_eq_true q'] at h5; exact absurd h5 (by decide))
      | (simp at h5; omega)
  cases hwl with
  | cons w1 w2 =>
    cases w2
    cases w1 with
    | list ho hall => exact ⟨_, _, ns, rfl, rfl, ho, ints_of_wellAll ns _ hall, hlen⟩

theorem post_true (l : OpenLaw) (args : List WData) : l.row.toRowW.claim.post args (.bool true) args = true :=
  postW_of (r := l.row.toRowW) (X := (true == true))
    (show WShape.has [] (.bool true) .bool = true by first | rfl | decide | simp [WShape.has, WShape.arms, WShape.armsAll])
    (show (WTm.eq .res (.lit (.bool true))).value [] { args := args, res := some (.bool true), after := args } = some (.bool (true == true)) from w_eq_bool (w_res rfl) w_lit) rfl

/-! ### the attachment: holds_open's last premise (the goal 'hc' behind k_head) from a wpAny of the law's body -/
/-- the same from a codeAny of the CALL (for a layer whose function contracts speak of calls) -/
theorem attach_call {l : OpenLaw} {n : Nat} {q : Program} {loose : List Str} {XP : (Str → Option Value) → Heap → Prop} {YP : World → Heap → Prop} {d : DefRec}
    (hn : l.most = some n) (hdf : d.params.defaults = [])
    (call : ∀ (w : World) (s₀ s₁ : Shared) (mg mb : Str → Option Value) (fa : Addr) (o : Obj) (pm cd doc : Value) (a : Addr) (vs : List Value) (ns : List Int),
      Ground q loose [] XP w s₀ mg mb s₁.heap → YP w s₁.heap →
      s₁.heap.get? fa = some o → o.data = .func (docDef d.name d.params d.body d.scope pm cd doc) → s₁.heap.CodeRec cd d.name → mg d.name = some (.ref fa) →
      s₁.heap.get? a = some { cls := .type "list", data := .seq vs.toArray } → IntsAre vs ns → ns.length ≤ n → s₁.gens = #[] →
      codeAny (model l.prog w) callerA (.call (.ref fa) ⟨[.ref a], []⟩) (fun r s' => r = .ok (.ret (.bool true)) ∧ OldK s₁.heap s'.heap ∧ s'.os = s₁.os ∧ AllBare s'.gens) s₁) :
    WalkO q loose XP YP l.row.toRowW d [] (fun f vs => PySem.call f vs) := by
  intro w s₀ s₁ mg mb G Y fa o pm cd doc dV kV ho hd hcd hD hmg hg args vals as hpre hlay hrd hwl hlo
  obtain rfl : dV = .none := Dflts.none hD hdf
  obtain rfl : kV = .none := Dflts.noKw hD
  obtain ⟨a, vs, ns, rfl, rfl, hobj, hints, hlen⟩ := script_of hn hpre hwl
  refine enter_call (codeAny_mono (call w s₀ s₁ mg mb fa o pm cd doc a vs ns G Y ho (fd_plain hd) hcd hmg hobj hints hlen hg) fun r s' hq => ?_)
  obtain ⟨rfl, h2, h3, h4⟩ := hq
  exact ⟨.inl ⟨.bool true, .bool true, [], rfl, fun _ => rfl, .bool true, post_true l _, fun _ => ⟨List.Pairwise.nil, fun _ hm => (nomatch hm)⟩⟩, h2, h3, h4⟩

/-! ### rules over ANY heap (no ledger) from facts about the written part K: the library's own take a ledger (News) for what they write -/
section
variable {prog : Program} {w : World} {A : Around} {E : Value → Shared → Prop} {s : Shared} {K : Frag}

/-! the whole heap as the ledger: makes every rule that writes through a ledger a rule over any heap -/
def noObjs (h : Heap) : Heap := { h with objs := #[] }
def ledger (h : Heap) (L d : Addr) : List (Addr × Obj) := (List.range h.objs.size).filterMap fun a => if a = L ∨ a = d then none else (h.get? a).map fun o => (a, o)
end
end Att

namespace L2
open PySem PySem.Spec PyProof.Rows

theorem vals_ints : ∀ {vs : List Value} {ns : List Int}, IntsAre vs ns → Vals (ns.map V.int) vs
  | _, _, .nil => .nil
  | _, _, .cons n t h => .cons ⟨t, rfl⟩ (vals_ints h)

/-- nothing is tracked but the script, known to the object (or it is an object of the module) -/
def Only (H : Hp) : Prop := ∀ b, H b = none ∨ ∃ o xs, H b = some (.frz o (.lst xs))

/-- THE HEAD: the law's promise, at the heap behind the top. F, the promise of the law's def, may use that base is part of the heap (so K.In base, base.Ns mainGlobals mg stand in Mod) -/
theorem law_call {P : Program} {w : World} {K : PySem.W.Frag} {mg mb : Str → Option Value} {CX : CXT} {k : Nat} {fa a : Addr} {fd : FuncData} {x : Str} {sp : Sp} {s₁ : Shared} {vs : List Value} {ns : List Int}
    (KX : K.In s₁.heap) (hns : s₁.heap.Ns mainGlobals mg) (hb : s₁.heap.Ns builtinsNs mb) (hbb : ∀ x : Str, x ≠ "__name__" → mb x = bootBuiltins x) (hlim : s₁.heap.NoLimit) (hg : s₁.gens = #[])
    (ha : s₁.heap.get? a = some { cls := .type "list", data := .seq vs.toArray }) (hi : IntsAre vs ns) (hl : ns.length ≤ sizeLine) (hr : Room k callerA)
    (F : ∀ base : Heap, K.In base → base.Ns mainGlobals mg → FnOk P w K mg base CX k fa fd [x] sp) (hbind : ∀ (s : Shared) (u : Value), BindsTo s fd ⟨[u], []⟩ [(x, u)])
    (hsp : ∀ H : Hp, Only H → SqL K H a (ns.map V.int) → sp [.ref a] H (fun v _ => v = .bl true) fun _ _ _ => False)
    (hCX : ∀ H e s', CX [] H s₁ (fun _ _ _ => False) e s' → False) :
    codeAny (model P w) callerA (.call (.ref fa) ⟨[.ref a], []⟩) (fun r s' => r = .ok (.ret (.bool true)) ∧ OldK s₁.heap s'.heap ∧ s'.os = s₁.os ∧ AllBare s'.gens) s₁ := by
  have rv := vals_ints hi
  have lenV := hi.length
  -- from an abstract heap in which nothing but the script may be tracked
  have core : ∀ H : Hp, Only H → SqL K H a (ns.map V.int) → HOk P w H s₁.heap → (∀ b, H b ≠ none → b = a) → (H a ≠ none → K.lookup a = none) →
      codeAny (model P w) callerA (.call (.ref fa) ⟨[.ref a], []⟩) (fun r s' => r = .ok (.ret (.bool true)) ∧ OldK s₁.heap s'.heap ∧ s'.os = s₁.os ∧ AllBare s'.gens) s₁ := by
    intro H hO hS hok hA hK
    have base_of : ∀ {b : Addr} {o : Obj}, s₁.heap.get? b = some o → H b = none → (hidT s₁.heap H).get? b = some o := fun e n => hidT_get e n
    have noA : ∀ {b : Addr} {o : Obj} {es : Array DictEntry} {ep : Nat}, s₁.heap.get? b = some o → o.data = .dict es ep → H b = none := fun {b o es ep} e d => by
      cases q : H b with
      | none => rfl
      | some u =>
        have e' : b = a := hA b (by rw [q]; simp)
        subst e'
        rw [ha] at e; cases e
        have d' : Data.seq vs.toArray _ = Data.dict es ep := d
        cases d'
    have nsK : ∀ {b : Addr} {m : Str → Option Value}, s₁.heap.Ns b m → (hidT s₁.heap H).Ns b m := fun {b m} ⟨o, es, ep, e, d, r⟩ => ⟨o, es, ep, base_of e (noA e d), d, r⟩
    have hKb : K.In (hidT s₁.heap H) := fun b o e => base_of (KX b o e) (by
      cases q : H b with
      | none => rfl
      | some u =>
        have e' : b = a := hA b (by rw [q]; simp)
        subst e'
        rw [hK (by rw [q]; simp)] at e; cases e)
    have hM : Mod K mg (hidT s₁.heap H) := ⟨hKb, nsK hns, ⟨mb, nsK hb, hbb⟩, let ⟨mc, h1, h2⟩ := hlim; ⟨mc, nsK h1, h2⟩⟩
    have e0 : Env0 P w K mg (hidT s₁.heap H) callerA [] s₁ H := ⟨rfl, hM, fun b o e => of_hidT e, Nat.le_of_eq (hidT_size _ _), trivial, fun b hb => absurd (show b ∈ ([] : List Addr) from hb) (by simp), hok, .of_eq hg⟩
    refine codeAny_mono ((F _ hKb (nsK hns)).run callerA [] s₁ H ⟨[.ref a], []⟩ [.ref a] [.ref a] _ _ hr e0 (hbind s₁ (.ref a)) (.cons rfl .nil) (hsp H hO hS)) fun r s' h => ?_
    cases r with
    | error e => exact (hCX H e s' h).elim
    | ok fl =>
      cases fl with
      | next => exact False.elim h
      | brk => exact False.elim h
      | cont => exact False.elim h
      | ret u =>
        obtain ⟨v, H', os, bare, un, hok', r', q⟩ := h
        have q' : v = .bl true := q
        subst q'
        obtain rfl : u = Value.bool true := r'
        refine ⟨rfl, OldK.of_keep fun b o e => ?_, os, bare⟩
        cases q : H b with
        | none => exact un.keep b o e q (by intro z; exact absurd (show b ∈ ([] : List Addr) from z) (by simp)) (by simp)
        | some u =>
          rcases hO b with z | ⟨ob, xs, z⟩
          · rw [q] at z; cases z
          · have z2 := un.frzs b ob _ z
            obtain ⟨e1, _⟩ := hok b _ z
            obtain ⟨e2, _⟩ := hok' b _ z2
            rw [e] at e1; cases e1
            exact e2
  cases hk : K.lookup a with
  | some o =>
    -- the script is one of the module's own objects
    have e := KX a o hk
    rw [ha] at e
    cases e
    refine core (fun _ => none) (fun _ => .inl rfl) (.inr ⟨_, vs.toArray, _, hk, rfl, rfl, rfl, by rw [List.size_toArray, lenV]; exact hl, by simpa using rv⟩) (fun b u z => by have z' : (none : Option HO) = some u := z; cases z') (fun b z => absurd rfl z) fun z => absurd rfl z
  | none =>
    refine core (fun b => if b = a then some (.frz { cls := .type "list", data := .seq vs.toArray } (.lst (ns.map V.int))) else none) (fun b => ?_) (.inl (.inr ⟨{ cls := .type "list", data := .seq vs.toArray }, if_pos rfl⟩)) (fun b u z => ?_) (fun b z => ?_) fun _ => hk
    · by_cases hb : b = a
      · exact .inr ⟨_, _, if_pos hb⟩
      · exact .inl (if_neg hb)
    · by_cases hb : b = a
      · have z' := (if_pos hb).symm.trans z
        cases z'
        subst hb
        exact ⟨ha, by rw [List.length_map]; exact hl, vs, _, rv, ha⟩
      · have z' := (if_neg hb).symm.trans z
        cases z'
    · by_cases hb : b = a
      · exact hb
      · exact absurd (if_neg hb) z
end L2

namespace L2
open PySem PySem.Spec PyProof.Rows

abbrev KOf {K : PySem.W.Frag} {h : Heap} (_ : K.In h) : PySem.W.Frag := K

/-- the goal that k_head leaves (case hc), from the law's promise. F gives the function object fd (K's own) once, then the promise over every base -/
theorem walk_of {l : PySem.W.OpenLaw} {n k : Nat} {q : Program} {loose : List Str} {XP : (Str → Option Value) → Heap → Prop} {YP : World → Heap → Prop} {d : DefRec} {K : Params → PySem.W.Frag} {CX : World → CXT} {sp : World → Sp} {x : Str}
    (hn : l.most = some n) (hn2 : n ≤ sizeLine) (hdf : d.params.defaults = []) (hr : Room k callerA)
    (hY : ∀ (w : World) (h : Heap), YP w h → (K w.params).In h)
    (F : ∀ (w : World) (mg : Str → Option Value) (fa : Addr) (h : Heap), (K w.params).In h → h.Ns mainGlobals mg → mg d.name = some (.ref fa) →
      ∃ fd : FuncData, (∀ (s : Shared) (u : Value), BindsTo s fd ⟨[u], []⟩ [(x, u)]) ∧
        ∀ base : Heap, (K w.params).In base → base.Ns mainGlobals mg → FnOk l.prog w (K w.params) mg base (CX w) k fa fd [x] (sp w))
    (hsp : ∀ (w : World) (H : Hp) (a : Addr) (ns : List Int), ns.length ≤ n → Only H → SqL (K w.params) H a (ns.map V.int) → sp w [.ref a] H (fun v _ => v = .bl true) fun _ _ _ => False)
    (hCX : ∀ (w : World) (H : Hp) (s : Shared) (e : Value) (s' : Shared), CX w [] H s (fun _ _ _ => False) e s' → False) :
    PySem.W.WalkO q loose XP YP l.row.toRowW d [] (fun f vs => PySem.call f vs) := by
  refine Att.attach_call hn hdf fun w s₀ s₁ mg mb fa o pm cd doc a vs ns G Y ho hd hcd hmg hobj hints hlen hg => ?_
  have KX := hY w _ Y
  obtain ⟨fd, hb, hF⟩ := F w mg fa _ KX G.T.g hmg
  exact law_call KX G.T.g G.T.b G.T.builtins G.T.nolimit hg hobj hints (Nat.le_trans hlen hn2) hr hF hb (fun H hO hS => hsp w H a ns hlen hO hS) fun H e s' => hCX w H s₁ e s'
end L2

/- THE LAST THEOREM (shape; LID, My.* are yours):
   My.Adr: a structure of the addresses that your layer names (classes, functions); My.Txt K t: a structure (Prop) of the equations over K;
   My.txt_mk : {K} {implicit addresses ..} (e1 : nsIn K mainGlobals "law" = some (some (.ref f))) (e2 : K.lookup f = some ⟨oc, od, .func (fnOf "law" "law" params body scope dV kV doc pm an cdv ct), sl⟩) (e3 : codeIn K cdv "law" = true) .. : ∃ t, My.Txt K t

set_option maxRecDepth 100000 in
set_option maxHeartbeats 0 in
theorem PySem.Challenge.cw_LID_holds : PySem.Challenge.rw_LID.Holds := by
  w_on; o_law; k_head; (case hw => w_witness2)
  k_fill
  refine L2.walk_of (l := PySem.Challenge.rw_LID) (n := 63) (k := 40) (x := "script") (CX := fun w => ..) (sp := fun _ => My.sp_law) rfl (by decide) rfl ⟨rfl, by decide, by decide⟩ (fun w h Y => PySem.W.kIn_of Y) ?F ?S ?C
  case F =>
    intro w mg fa h KX G hmg
    have T : ∃ t, My.Txt (L2.KOf KX) t := by
      dsimp only [L2.KOf]                          -- K must stand as «<heap const> w.params» for k_is
      refine' My.txt_mk ?e1 ?e2 ?e3 ..
      (case e1 => PySem.W.k_is)                    -- in the order: a name -> its address -> its object -> its parts
      (case e2 => PySem.W.k_is)
      ..
    obtain ⟨t, T⟩ := T
    have e0 := hmg.symm.trans (PySem.W.mg_of KX G T.law)
    cases e0                                       -- fa is the law's own address
    exact ⟨_, fun s u => .of_eq rfl, fun base kb nb => My.law_fn T kb nb⟩     -- if «.of_eq rfl» comes too early: refine' ⟨_, ?b, fun base kb nb => My.law_fn T kb nb⟩; exact fun s u => .of_eq rfl
  case S => exact fun w H a ns hl hO hS => ..
  case C => exact ..
(the tactic k_is has no namespace: write k_is) -/

/-! SHORT WORDS over the layer: a def of the text, its body, what a loop and a test want. -/
namespace L2
open PySem PySem.Spec PyProof.Rows

/-! ### the text by places -/
/-- the j-th statement of a class's body -/
def inClass (s : Stmt) (j : Nat) : Stmt := match s with
  | .ClassDef _ _ _ body _ _ _ _ _ _ _ => body.getD j (.Pass ⟨0, 0, 0, 0⟩)
  | _ => .Pass ⟨0, 0, 0, 0⟩
def defArgs (s : Stmt) : Arguments := match s with
  | .FunctionDef _ a _ _ _ _ _ _ _ _ => a
  | _ => { posonlyargs := [], args := [], vararg := none, kwonlyargs := [], kw_defaults := [], kwarg := none, defaults := [] }
def defBody (s : Stmt) : List Stmt := match s with
  | .FunctionDef _ _ b _ _ _ _ _ _ _ => b
  | _ => []
def defScope (s : Stmt) : Scope := match s with
  | .FunctionDef _ _ _ _ _ _ sc _ _ _ => sc
  | _ => { kind := .function, names := [], isGenerator := false, isCoroutine := false }

/-! ### no exception leaves a def -/
abbrev CX0 : CXT := fun _ _ _ _ _ _ => False
abbrev E0 : XK := fun _ _ _ => False
/-! ### a def (or method) of the text as it stands behind the top -/
structure Fun (K : PySem.W.Frag) (x qual : Str) (st : Stmt) (f : Addr) (fd : FuncData) : Prop where
  ex : ∃ (oc : Value) (od : Option Addr) (kV doc pm : Value) (an : Option Addr) (cdv ct : Value) (osl : Array (Option Value)),
    fd = PySem.W.fnOf x qual (defArgs st) (defBody st) (defScope st) .none kV doc pm an cdv ct ∧ K.lookup f = some ⟨oc, od, .func fd, osl⟩ ∧ PySem.W.codeIn K cdv qual = true
  kp : PySem.W.keepIn K (.ref f) = true
section
variable {P : Program} {w : World} {K : PySem.W.Frag} {mg : Str → Option Value} {base : Heap}
/-- THE RULE for a def: its body as a term of rules, and the reading of that term -/
theorem Fun.ok {x qual : Str} {st : Stmt} {f : Addr} {fd : FuncData} {N ps : List Str} {k : Nat} {sp : Sp} (F : Fun K x qual st f fd) (S : FnScope N ps (defScope st)) (len : ∀ vs H Q E, sp vs H Q E → vs.length = ps.length)
    (hbody : ∀ (cdv : Value) (A : Around) (outer : List Env) (s : Shared) (H : Hp) (vs : List V) (Q : VK) (E : XK), Room k (A.deeper (envOfC qual (defScope st) s.heap.objs.size f cdv)) → sp vs H Q E →
      ∃ t, PSs (cxOf CX0 P w K mg base N qual (defScope st) f cdv A outer s H E).nox (defBody st) t ∧ t { nx := fun _ H' => Q .non H', rt := Q } (start N vs) H) : FnOk P w K mg base CX0 (k + 1) f fd ps sp := by
  obtain ⟨oc, od, kV, doc, pm, an, cdv, ct, osl, rfl, lk, hcd⟩ := F.ex
  refine fn_of lk hcd S len fun A outer s H vs Q E hr hsp => ?_
  obtain ⟨t, h, q⟩ := hbody cdv A outer s H vs Q E hr hsp
  exact ⟨t, h.nox, q⟩
/-- how its arguments bind (no defaults): h is «fun _ _ _ _ _ _ us hl => match us, hl with | [_, _], _ => rfl», one _ a parameter -/
theorem Fun.binds {x qual : Str} {st : Stmt} {f : Addr} {fd : FuncData} {ps : List Str} (F : Fun K x qual st f fd)
    (h : ∀ (kV doc pm : Value) (an : Option Addr) (cdv ct : Value) (us : List Value), us.length = ps.length → bindArgs (PySem.W.fnOf x qual (defArgs st) (defBody st) (defScope st) .none kV doc pm an cdv ct) ⟨us, []⟩ = pure (ps.zip us)) : Binds K fd ps [] := by
  obtain ⟨oc, od, kV, doc, pm, an, cdv, ct, osl, rfl, lk, hcd⟩ := F.ex
  exact .all (h kV doc pm an cdv ct)
theorem fun_mk {x qual : Str} {st : Stmt} {f : Addr} {oc : Value} {od an : Option Addr} {osl : Array (Option Value)} {kV doc pm cdv ct : Value} (l : K.lookup f = some ⟨oc, od, .func (PySem.W.fnOf x qual (defArgs st) (defBody st) (defScope st) .none kV doc pm an cdv ct), osl⟩)
    (c : PySem.W.codeIn K cdv qual = true) (k : PySem.W.keepIn K (.ref f) = true) : Fun K x qual st f (PySem.W.fnOf x qual (defArgs st) (defBody st) (defScope st) .none kV doc pm an cdv ct) := ⟨⟨oc, od, kV, doc, pm, an, cdv, ct, osl, rfl, l, c⟩, k⟩
end
/-! ### expressions in short: the name that stands in the i-th slot -/
section
variable {X : Cx}
end

/-! ### tests -/
theorem iteF {A B : Prop} (h : B) : if false = true then A else B := by
  rw [if_neg Bool.false_ne_true]
  exact h
theorem iteT {A B : Prop} (h : A) : if true = true then A else B := by
  rw [if_pos rfl]
  exact h
/-! ### heaps -/
/-- all that was tracked is as it was -/
def Same (H H' : Hp) : Prop := ∀ b o, H b = some o → H' b = some o
theorem Same.refl (H : Hp) : Same H H := fun _ _ h => h
theorem Same.trans {H H1 H2 : Hp} (a : Same H H1) (b : Same H1 H2) : Same H H2 := fun c o h => b c o (a c o h)
theorem Same.free {H H' : Hp} (e : Same H H') {l : Addr} (h : H' l = Option.none) : H l = Option.none := by
  cases q : H l with
  | none => rfl
  | some o =>
    rw [e l o q] at h
    cases h
theorem Same.seq {K : PySem.W.Frag} {H H' : Hp} {a : Addr} {xs : List V} (e : Same H H') (h : SqL K H a xs) : SqL K H' a xs := by
  rcases h with (h | ⟨o, h⟩) | h
  · exact .inl (.inl (e _ _ h))
  · exact .inl (.inr ⟨o, e _ _ h⟩)
  · exact .inr h

end L2
set_option Elab.async false
set_option linter.all false
set_option maxRecDepth 100000
set_option maxHeartbeats 4000000
namespace NB
theorem gcd_fmod (a b : Int) : Int.gcd b (a.fmod b) = Int.gcd a b := by
  rw [Int.fmod_def, Int.gcd_comm]
  have : a - b * a.fdiv b = a + b * (-(a.fdiv b)) := by rw [Int.mul_neg]; omega
  rw [this, Int.gcd_comm, Int.gcd_add_mul_left_right, Int.gcd_comm]
theorem fmod_lt (a b : Int) (h : b ≠ 0) : (a.fmod b).natAbs < b.natAbs := by
  rcases Int.lt_or_gt_of_ne h with hb | hb
  · have e : (-(-a)).fmod (-(-b)) = -((-a).fmod (-b)) := by
      rw [Int.neg_fmod_neg]
    rw [Int.neg_neg, Int.neg_neg] at e
    have h1 := Int.fmod_nonneg_of_pos (-a) (b := -b) (by omega)
    have h2 := Int.fmod_lt_of_pos (-a) (b := -b) (by omega)
    omega
  · have h1 := Int.fmod_nonneg_of_pos a hb
    have h2 := Int.fmod_lt_of_pos a hb
    omega
theorem fdiv_exact {a d q : Int} (hd : d ≠ 0) (h : a = d * q) : a.fdiv d = q := by
  subst h
  rw [Int.mul_fdiv_cancel_left _ hd]
theorem num_low (t b : Int) (hb : b ≠ 0) (d : Int) (hd : d = if b < 0 then -(Int.gcd t b : Int) else (Int.gcd t b : Int)) :
    d ≠ 0 ∧ t.fdiv d = (Rat.divInt t b).num ∧ b.fdiv d = ((Rat.divInt t b).den : Int) := by
  have g0 : (Int.gcd t b : Int) ≠ 0 := by
    intro z
    have : Int.gcd t b = 0 := by omega
    rw [Int.gcd_eq_zero_iff] at this
    exact hb this.2
  have gp : 0 < (Int.gcd t b : Int) := by omega
  have h1 := Int.gcd_dvd_left t b
  have h2 := Int.gcd_dvd_right t b
  obtain ⟨x, hx⟩ := h1
  obtain ⟨y, hy⟩ := h2
  have hd0 : d ≠ 0 := by subst hd; split <;> omega
  refine ⟨hd0, ?_, ?_⟩
  · rw [Rat.num_divInt, Int.gcd_comm b t]
    by_cases hn : b < 0
    · rw [if_pos hn] at hd
      rw [Int.sign_eq_neg_one_of_neg hn]
      refine fdiv_exact hd0 ?_
      have e : -1 * t / (Int.gcd t b : Int) = -x := by
        have : -1 * t = (Int.gcd t b : Int) * (-x) := by rw [Int.mul_neg, ← hx]; omega
        rw [this, Int.mul_ediv_cancel_left _ g0]
      rw [e, hd, Int.neg_mul_neg]; exact hx
    · rw [if_neg hn] at hd
      rw [Int.sign_eq_one_of_pos (by omega)]
      refine fdiv_exact hd0 ?_
      have e : 1 * t / (Int.gcd t b : Int) = x := by
        have : 1 * t = (Int.gcd t b : Int) * x := by rw [← hx]; omega
        rw [this, Int.mul_ediv_cancel_left _ g0]
      rw [e, hd]; exact hx
  · rw [Rat.den_divInt, if_neg hb, Int.gcd_comm b t]
    refine fdiv_exact hd0 ?_
    have hyn : b.natAbs = Int.gcd t b * y.natAbs := by
      conv => lhs; rw [hy]
      rw [Int.natAbs_mul]; simp
    have e : b.natAbs / Int.gcd t b = y.natAbs := by
      rw [hyn, Nat.mul_div_cancel_left _ (by omega)]
    rw [e]
    by_cases hn : b < 0
    · rw [if_pos hn] at hd
      have : y < 0 := by
        rcases Int.lt_or_le y 0 with q | q
        · exact q
        · have := Int.mul_nonneg (Int.le_of_lt gp) q
          omega
      have e2 : (y.natAbs : Int) = -y := by omega
      rw [e2, hd, Int.neg_mul_neg]; exact hy
    · rw [if_neg hn] at hd
      have : 0 ≤ y := by
        rcases Int.lt_or_le y 0 with q | q
        · have := Int.mul_neg_of_pos_of_neg gp q
          omega
        · exact q
      have e2 : (y.natAbs : Int) = y := by omega
      rw [e2, hd]; exact hy
theorem minus_eq (a b : Rat) : Rat.divInt (a.num * b.den - b.num * a.den) ((a.den : Int) * b.den) = a - b := by
  rw [Rat.sub_def', ← Rat.divInt_ofNat]; simp
end NB
namespace NB
def Sz (n : Nat) (q : Rat) : Prop := q.num.natAbs < 2 ^ n ∧ q.den < 2 ^ n
theorem Sz.mono {m n : Nat} {q : Rat} (h : Sz m q) (hmn : m ≤ n) : Sz n q :=
  ⟨Nat.lt_of_lt_of_le h.1 (Nat.pow_le_pow_right (by decide) hmn), Nat.lt_of_lt_of_le h.2 (Nat.pow_le_pow_right (by decide) hmn)⟩
theorem natAbs_ediv_le (a : Int) (g : Nat) : (a / (g : Int)).natAbs ≤ a.natAbs := by
  rcases Nat.eq_zero_or_pos g with h | h
  · subst h; simp
  · have := Int.natAbs_ediv_le_natAbs a (g : Int); exact this
theorem Sz.divInt {n : Nat} {t b : Int} (hb : b ≠ 0) (h1 : t.natAbs < 2 ^ n) (h2 : b.natAbs < 2 ^ n) : Sz n (Rat.divInt t b) := by
  refine ⟨?_, ?_⟩
  · rw [Rat.num_divInt]
    refine Nat.lt_of_le_of_lt ?_ h1
    by_cases hdv : (b.sign * t).natAbs = t.natAbs
    · exact hdv ▸ natAbs_ediv_le _ _
    · exfalso; apply hdv
      rw [Int.natAbs_mul]
      rcases Int.lt_or_gt_of_ne hb with h | h
      · rw [Int.sign_eq_neg_one_of_neg h]; simp
      · rw [Int.sign_eq_one_of_pos h]; simp
  · rw [Rat.den_divInt, if_neg hb]
    exact Nat.lt_of_le_of_lt (Nat.div_le_self _ _) h2
theorem mul_lt {a b m n : Nat} (h1 : a < 2 ^ m) (h2 : b < 2 ^ n) : a * b < 2 ^ (m + n) := by
  rw [Nat.pow_add]
  exact Nat.mul_lt_mul'' h1 h2
theorem two_pow (k : Nat) : 2 ^ (k + 1) = 2 ^ k + 2 ^ k := by rw [Nat.pow_succ]; omega
theorem Sz.add {m n : Nat} {p q : Rat} (hp : Sz m p) (hq : Sz n q) : Sz (m + n + 1) (p + q) := by
  rw [Rat.add_def', ← Rat.divInt_ofNat]
  have h1 := mul_lt hp.1 hq.2
  have h2 := mul_lt hq.1 hp.2
  have h3 := mul_lt hp.2 hq.2
  rw [Nat.add_comm n m] at h2
  have e := two_pow (m + n)
  refine Sz.divInt ?_ ?_ ?_
  · have h := Nat.mul_ne_zero p.den_nz q.den_nz
    omega
  · have t1 : (p.num * (q.den : Int)).natAbs = p.num.natAbs * q.den := by rw [Int.natAbs_mul]; simp
    have t2 : (q.num * (p.den : Int)).natAbs = q.num.natAbs * p.den := by rw [Int.natAbs_mul]; simp
    have t3 := Int.natAbs_add_le (p.num * (q.den : Int)) (q.num * (p.den : Int))
    omega
  · rw [Int.natAbs_natCast]; omega
theorem Sz.neg {n : Nat} {q : Rat} (h : Sz n q) : Sz n (-q) := by
  refine ⟨?_, h.2⟩
  rw [Rat.neg_num, Int.natAbs_neg]; exact h.1
theorem Sz.sub {m n : Nat} {p q : Rat} (hp : Sz m p) (hq : Sz n q) : Sz (m + n + 1) (p - q) := by
  rw [Rat.sub_eq_add_neg]; exact hp.add hq.neg
theorem Sz.zero {n : Nat} (h : 0 < n) : Sz n 0 := ⟨by simp; exact Nat.two_pow_pos n, by simp; omega⟩
theorem Sz.one {n : Nat} (h : 0 < n) : Sz n 1 := ⟨by simp; omega, by simp; omega⟩
end NB
/-! OWN RULES over the layer: data, sizes, calls, isinstance, == of data. -/
namespace L3
open PySem PySem.Spec PyProof.Rows L2

/-! ### arithmetic of any size that comes -/
section
variable {X : Cx}
theorem op_mulW : OpR X (binaryOp .Mult) (rI IntMulOk fun i j => .int (i * j)) := opI fun _ _ _ _ _ _ _ hc q => mul_int q hc
theorem op_fdivW : OpR X (binaryOp .FloorDiv) (rI (fun _ j => j ≠ 0 ∧ j.natAbs < 2 ^ 9000) fun i j => .int (i.fdiv j)) :=
  opI fun _ j _ _ _ _ _ hc q => floordiv_int hc.1 q (.inl (PyProof.noPylong_of_log2 (by
    have h0 : j.natAbs ≠ 0 := by have := hc.1; omega
    exact (Nat.log2_lt h0).mpr hc.2)))
end
theorem mulOk {a b : Int} {m n : Nat} (ha : a.natAbs < 2 ^ m) (hb : b.natAbs < 2 ^ n) (h : m + n ≤ 1000000) : IntMulOk a b :=
  IntMulOk.of_le (intBits_le_iff.mpr ha) (intBits_le_iff.mpr hb) (by omega)

/-! ### data -/
mutual
inductive DV (K : PySem.W.Frag) (H : Hp) : V → PyData → Prop
  | non : DV K H .non .none
  | bl (b : Bool) : DV K H (.bl b) (.bool b)
  | int (i : Int) : DV K H (.int i) (.int i)
  | str (x : Str) : DV K H (.str x) (.str x)
  | tup {a : Addr} {xs : List V} {ds : List PyData} : SqT K H a xs → DVs K H xs ds → DV K H (.ref a) (.tuple ds)
  | lst {a : Addr} {xs : List V} {ds : List PyData} : SqL K H a xs → DVs K H xs ds → DV K H (.ref a) (.list ds)
inductive DVs (K : PySem.W.Frag) (H : Hp) : List V → List PyData → Prop
  | nil : DVs K H [] []
  | cons {v : V} {vs : List V} {d : PyData} {ds : List PyData} : DV K H v d → DVs K H vs ds → DVs K H (v :: vs) (d :: ds)
end
/-- tuples stay -/
def TK (H H' : Hp) : Prop := (∀ a xs, H a = some (.tup xs) → H' a = some (.tup xs)) ∧ ∀ a o u, H a = some (.frz o u) → H' a = some (.frz o u)
theorem TK.refl (H : Hp) : TK H H := ⟨fun _ _ h => h, fun _ _ _ h => h⟩
theorem TK.trans {H H1 H2 : Hp} (a : TK H H1) (b : TK H1 H2) : TK H H2 := ⟨fun c xs h => b.1 c xs (a.1 c xs h), fun c o u h => b.2 c o u (a.2 c o u h)⟩
theorem TK.of {H H' : Hp} (s : Same H H') : TK H H' := ⟨fun a _ h => s a _ h, fun a _ _ h => s a _ h⟩
theorem TK.new {H : Hp} {p : Addr} {o : HO} (h : H p = none) : TK H (upd H p o) :=
  ⟨fun a xs e => by rw [upd_ne (ne_of_none e h)]; exact e, fun a ob u e => by rw [upd_ne (ne_of_none e h)]; exact e⟩
theorem TK.lst {H : Hp} {p : Addr} {xs : List V} {o : HO} (h : H p = some (.lst xs)) : TK H (upd H p o) :=
  ⟨fun a ys e => by rw [upd_ne (ne_of e h ((fun z => nomatch z)))]; exact e, fun a ob u e => by rw [upd_ne (ne_of e h ((fun z => nomatch z)))]; exact e⟩
theorem same_new {H : Hp} {p : Addr} (h : H p = none) (o : HO) : Same H (upd H p o) := fun b u q => by rw [upd_ne (ne_of_none q h)]; exact q
theorem TK.tup {K : PySem.W.Frag} {H H' : Hp} {a : Addr} {xs : List V} (e : TK H H') (h : SqT K H a xs) : SqT K H' a xs := by
  rcases h with (h | ⟨o, h⟩) | h
  · exact .inl (.inl (e.1 _ _ h))
  · exact .inl (.inr ⟨o, e.2 _ _ _ h⟩)
  · exact .inr h
theorem SameT {K : PySem.W.Frag} {H H' : Hp} {a : Addr} {xs : List V} (e : Same H H') (h : SqT K H a xs) : SqT K H' a xs := (TK.of e).tup h
mutual
/-- no list within -/
def noL : PyData → Bool
  | .list _ => false
  | .tuple ds => noLs ds
  | _ => true
def noLs : List PyData → Bool
  | [] => true
  | d :: ds => noL d && noLs ds
end
mutual
theorem DV.ts {K : PySem.W.Frag} {H H' : Hp} (e : TK H H') : ∀ {v : V} {d : PyData}, DV K H v d → noL d = true → DV K H' v d
  | _, _, .non, _ => .non
  | _, _, .bl b, _ => .bl b
  | _, _, .int i, _ => .int i
  | _, _, .str x, _ => .str x
  | _, _, .tup h r, n => .tup (e.tup h) (DVs.ts e r (by simpa [noL] using n))
  | _, _, .lst h r, n => by simp [noL] at n
theorem DVs.ts {K : PySem.W.Frag} {H H' : Hp} (e : TK H H') : ∀ {vs : List V} {ds : List PyData}, DVs K H vs ds → noLs ds = true → DVs K H' vs ds
  | _, _, .nil, _ => .nil
  | _, _, .cons r q, n => by
    simp only [noLs, Bool.and_eq_true] at n
    exact .cons (DV.ts e r n.1) (DVs.ts e q n.2)
end
mutual
theorem DV.same {K : PySem.W.Frag} {H H' : Hp} (e : Same H H') : ∀ {v : V} {d : PyData}, DV K H v d → DV K H' v d
  | _, _, .non => .non
  | _, _, .bl b => .bl b
  | _, _, .int i => .int i
  | _, _, .str x => .str x
  | _, _, .tup h r => .tup (SameT e h) (DVs.same e r)
  | _, _, .lst h r => .lst (e.seq h) (DVs.same e r)
theorem DVs.same {K : PySem.W.Frag} {H H' : Hp} (e : Same H H') : ∀ {vs : List V} {ds : List PyData}, DVs K H vs ds → DVs K H' vs ds
  | _, _, .nil => .nil
  | _, _, .cons r q => .cons (DV.same e r) (DVs.same e q)
end
section
variable {X : Cx} {pins : List (Addr × Obj)} {σ : L2.St} {H : Hp} {s : Shared}
mutual
theorem DV.reads (I : Inv X pins σ H s) : ∀ {v : V} {d : PyData} {u : Value}, DV X.K H v d → RelV v u → ∃ as, Reads s.heap u d as
  | _, _, _, .non, r => by cases r; exact ⟨_, .none⟩
  | _, _, _, .bl b, r => by cases r; exact ⟨_, .bool b⟩
  | _, _, _, .int i, r => by obtain ⟨t, rfl⟩ := r; exact ⟨_, .int i t⟩
  | _, _, _, .str x, r => by obtain ⟨t, rfl⟩ := r; exact ⟨_, .str x t⟩
  | _, _, _, .tup h q, r => by
    cases r
    obtain ⟨its, r', ⟨o, ho, hc, n, hd⟩, _⟩ := I.tuple h
    obtain ⟨as, z⟩ := DVs.reads I q r'
    exact ⟨as, .tuple ho hc hd (by simpa using z)⟩
  | _, _, _, .lst h q, r => by
    cases r
    obtain ⟨its, r', pl, _⟩ := I.list h
    obtain ⟨o, ho, hc, n, hd⟩ := pl.isList
    obtain ⟨as, z⟩ := DVs.reads I q r'
    exact ⟨_, .list ho hc hd (by simpa using z)⟩
theorem DVs.reads (I : Inv X pins σ H s) : ∀ {vs : List V} {ds : List PyData} {us : List Value}, DVs X.K H vs ds → Vals vs us → ∃ as, ReadsAll s.heap us ds as
  | _, _, _, .nil, r => by cases r; exact ⟨_, .nil⟩
  | _, _, _, .cons h q, r => by
    cases r with
    | cons r1 r2 =>
      obtain ⟨as, z1⟩ := DV.reads I h r1
      obtain ⟨bs, z2⟩ := DVs.reads I q r2
      exact ⟨_, .cons z1 z2⟩
end
end
/-- data that == may look at -/
def okD (d : PyData) : Bool := SeqAt.shaped d
section
variable {X : Cx}
def rEqD (K : PySem.W.Frag) : R2 := fun x y H Q => ∃ d e, DV K H x d ∧ DV K H y e ∧ okD d = true ∧ okD e = true ∧ Q (.bl (PyData.eqv d e)) H
def rNeD (K : PySem.W.Frag) : R2 := fun x y H Q => ∃ d e, DV K H x d ∧ DV K H y e ∧ okD d = true ∧ okD e = true ∧ Q (.bl (!PyData.eqv d e)) H
theorem op_eqD (hu : X.A.units + 64 < cLine) : OpR X (compareOp .Eq) (rEqD X.K) := by
  intro pins s σ H x y v u Q I rx ry h
  obtain ⟨d, e, h1, h2, o1, o2, q⟩ := h
  obtain ⟨as, r1⟩ := DV.reads I h1 rx
  obtain ⟨bs, r2⟩ := DV.reads I h2 ry
  exact eq_dataH r1 r2 o1 o2 hu ⟨.bl _, H, I, rfl, q⟩
theorem op_neD (hu : X.A.units + 64 < cLine) : OpR X (compareOp .NotEq) (rNeD X.K) := by
  intro pins s σ H x y v u Q I rx ry h
  obtain ⟨d, e, h1, h2, o1, o2, q⟩ := h
  obtain ⟨as, r1⟩ := DV.reads I h1 rx
  obtain ⟨bs, r2⟩ := DV.reads I h2 ry
  exact ne_dataH r1 r2 o1 o2 hu ⟨.bl _, H, I, rfl, q⟩
end

/-! ### a def that is called, in one piece -/
structure Cal (P : Program) (w : World) (K : PySem.W.Frag) (mg : Str → Option Value) (base : Heap) (CX : CXT) (k : Nat) (x : Str) (ps : List Str) (sp : Sp) : Prop where
  ex : ∃ (f : Addr) (fd : FuncData), FnOk P w K mg base CX k f fd ps sp ∧ Binds K fd ps [] ∧ PySem.W.keepIn K (.ref f) = true ∧ mg x = some (.ref f)
section
variable {X : Cx} {CX : CXT} {k n : Nat} {x : Str} {ps : List Str} {sp : Sp} {E : XK} {p pos : Pos} {e : Expr} {es : List Expr} {t : TA}
theorem pe_calX (C : Cal X.prog X.w X.K X.mg X.base CX k x ps sp) (hr : Room n X.A) (hx : Passes CX X E) (ha : PA X (e :: es) t) (hn : k ≤ n := by decide) (hg : Gl X x := by rfl) (hdb : (x == ("__debug__" : Str)) = false := by decide)
    (he : starEach (e :: es) X.env = (false, eval e X.env) :: starEach es X.env := by rfl) (hpl : (backTo pos (starEach es X.env)).any (·.1) = false := by rfl) :
    PE X (.Call (.Name x p) (e :: es) [] pos) (tCall sp [] E t) := by
  obtain ⟨f, fd, F, b, kp, m⟩ := C.ex
  exact pe_call F (hr.mono hn) hg m kp b .nil hx ha hdb he hpl
end

/-! ### isinstance -/
/-- a value's type, as isinstance's deciders take it -/
inductive TyX (K : PySem.W.Frag) (H : Hp) : V → Value → Prop where
  | non : TyX K H .non (.type "NoneType")
  | bl (x : Bool) : TyX K H (.bl x) (.type "bool")
  | int (i : Int) : TyX K H (.int i) (.type "int")
  | str (x : Str) : TyX K H (.str x) (.type "str")
  | lst {a : Addr} {xs : List V} (e : SqL K H a xs) : TyX K H (.ref a) (.type "list")
  | tup {a : Addr} {xs : List V} (e : SqT K H a xs) : TyX K H (.ref a) (.type "tuple")
section
variable {X : Cx} {pins : List (Addr × Obj)} {σ : L2.St} {H : Hp} {s : Shared} {A : Around} {E : Value → Shared → Prop} {Q : Value → Shared → Prop} {c : Value} {b : Bool}
/-- the kit of isinstance for such a value -/
theorem TyX.kit {x : V} {u t : Value} (I : Inv X pins σ H s) (rx : RelV x u) (ty : TyX X.K H x t) : u ≠ .builtin "__main__.__loader__#opaque" ∧ ∃ HP : Heap → Prop, PySem.W.KitX X.K u t HP ∧ HP s.heap := by
  cases ty with
  | non => cases (show u = Value.none from rx); exact ⟨fun z => (nomatch z), _, PySem.W.kitx_none, True.intro⟩
  | bl y => cases (show u = Value.bool y from rx); exact ⟨fun z => (nomatch z), _, PySem.W.kitx_bool, True.intro⟩
  | int i => obtain ⟨t, q⟩ := (show ∃ t, u = Value.int i t from rx); cases q; exact ⟨fun z => (nomatch z), _, PySem.W.kitx_int, True.intro⟩
  | str y => obtain ⟨t, q⟩ := (show ∃ t, u = Value.str y t from rx); cases q; exact ⟨fun z => (nomatch z), _, PySem.W.kitx_str, True.intro⟩
  | @lst a xs ea =>
    cases (show u = Value.ref a from rx)
    obtain ⟨its, _, pl, _⟩ := I.list ea
    obtain ⟨o, ho, hc, _⟩ := pl.isList
    exact ⟨fun z => (nomatch z), _, PySem.W.kitx_list, ⟨o, ho, hc⟩⟩
  | @tup a xs ea =>
    cases (show u = Value.ref a from rx)
    obtain ⟨its, _, ⟨o, ho, hc, _⟩, _⟩ := I.tuple ea
    exact ⟨fun z => (nomatch z), _, PySem.W.kitx_tuple, ⟨o, ho, hc⟩⟩
end
def vOf : V → Value
  | .ty n => .type n
  | .ref a => .ref a
  | _ => .none
def isCls : V → Bool
  | .ty _ => true
  | .ref _ => true
  | _ => false
theorem vOf_of {x : V} {u : Value} (h : isCls x = true) (r : RelV x u) : u = vOf x := by
  cases x <;> simp [isCls] at h <;> exact r
section
variable {X : Cx}
end
end L3
/-! OWN RULES: refusals. How an own exception is raised, leaves defs, is caught, and what isinstance says of it. -/
namespace L3
open PySem PySem.Spec PyProof.Rows L2

theorem ok_there {P : Program} {w : World} {H : Hp} {h : Heap} {a : Addr} {o : HO} (x : ObjOk P w H h a o) : ∃ ob, h.get? a = some ob := by
  cases o with
  | lst xs => obtain ⟨_, _, _, _, e⟩ := x; exact ⟨_, e⟩
  | tup xs => obtain ⟨_, _, _, ob, e, _⟩ := x; exact ⟨ob, e⟩
  | dK kvs => obtain ⟨_, _, _, _, o, _, _, e, _⟩ := x; exact ⟨o, e⟩
  | dT kvs => obtain ⟨_, _, _, _, o, _, _, e, _⟩ := x; exact ⟨o, e⟩
  | set S n => obtain ⟨o, _, _, _, e, _⟩ := x; exact ⟨o, e⟩
  | ins C dx fs => obtain ⟨_, _, _, e, _⟩ := x; exact ⟨_, e⟩
  | own y => exact x
  | xd fs => obtain ⟨_, ⟨o, _, _, e, _⟩, _⟩ := x; exact ⟨o, e⟩
  | rng lo hi => obtain ⟨_, _, _, e⟩ := x; exact ⟨_, e⟩
  | frz ob u => obtain ⟨e, _⟩ := x; exact ⟨_, e⟩
  | tbl ps => exact ⟨_, (show h.get? a = some _ from x)⟩
  | met f y => exact ⟨_, (show h.get? a = some _ from x)⟩
  | ext φ => obtain ⟨_, e, _⟩ := x; exact e

/-- what a refusal's passing leaves as it was -/
theorem un_to {P : Program} {w : World} {fs : List Addr} {H H1 : Hp} {h0 h h2 : Heap} (u : Un fs [] H H1 h0 h) (k : HOk P w H1 h)
    (cov : ∀ b o, h.get? b = some o → b ∉ fs → (h0.get? b ≠ none ∨ H1 b ≠ none) → h2.get? b = some o)
    (slot : ∀ b o, h.get? b = some o → b ∈ fs → ∃ sl, h2.get? b = some { o with slots := sl }) (free : ∀ b ∈ fs, H1 b = none) :
    Un fs [] H H1 h0 h2 ∧ HOk P w H1 h2 := by
  refine ⟨⟨fun b o q n hb hx => ?_, fun b o q n hb hx => ?_, u.free, fun b o q hx => ?_, u.tups, u.frzs, u.tbls⟩, fun a o e => ?_⟩
  · exact cov b o (u.keep b o q n hb hx) hb (.inl (by rw [q]; exact (fun z => nomatch z)))
  · obtain ⟨sl, e⟩ := u.slot b o q n hb hx
    obtain ⟨sl', e'⟩ := slot b _ e hb
    exact ⟨sl', e'⟩
  · obtain ⟨o', e⟩ := u.there b o q hx
    by_cases hb : b ∈ fs
    · obtain ⟨sl, e'⟩ := slot b o' e hb
      exact ⟨_, e'⟩
    · exact ⟨o', cov b o' e hb (.inl (by rw [q]; exact (fun z => nomatch z)))⟩
  · refine (k a o e).stay (fun b v hb q => ?_) (fun _ q => q) fun _ _ q => q
    have nn : H1 b ≠ none := by
      rcases hb with rfl | hb
      · rw [e]; exact (fun z => nomatch z)
      · rw [hb]; exact (fun z => nomatch z)
    exact cov b v q (fun hf => nn (free b hf)) (.inr nn)

/-- how a refusal lies behind a call: it flies over B, which holds all that stood ahead of the call and all that is tracked -/
def CXR (P : Program) (w : World) : CXT := fun outer H s E e s' =>
  ∃ (ea : Addr) (C : Value) (t : Addr) (B : Heap) (H' : Hp), e = .ref ea ∧ s'.os = s.os ∧ AllBare s'.gens ∧ Un (frs outer) [] H H' s.heap s'.heap ∧ HOk P w H' s'.heap ∧
    Heap.FlyingW B outer ea C (.ref t) s'.heap ∧ (∀ b o, s'.heap.get? b = some o → b ∉ frs outer → (s.heap.get? b ≠ none ∨ H' b ≠ none) → B.get? b = some o) ∧
    s.heap.get? ea = none ∧ H' ea = none ∧ E C none H'

section
variable {P : Program} {w : World} {K : PySem.W.Frag} {mg : Str → Option Value} {base : Heap} {N : List Str} {qual : Str} {scope : Scope} {f : Addr} {cd : Value} {A : Around} {outer : List Env} {s : Shared} {H : Hp} {E : XK}
/-- an exception that is wanted may be raised here -/
def RaisesTo (X : Cx) (E : XK) : Prop := ∀ (pins : List (Addr × Obj)) (σ : L2.St) (H : Hp) (s : Shared) (h' : Heap) (ea : Addr) (C : Value) (vs : List Value),
  Inv X pins σ H s → Heap.MadeExcOf s.heap h' ea C vs → E C none H → X.xe (.ref ea) { s with heap := h' }

theorem raises_def : RaisesTo (cxOf (CXR P w) P w K mg base N qual scope f cd A outer s H E) E := by
  intro pins σ H1 s1 h' ea C vs I hm hE
  have st := I.stack
  have nL : ∀ b, (s.heap.get? b ≠ none ∨ H1 b ≠ none) → b ∉ frs outer → b ∉ frs (envOfC qual scope s.heap.objs.size f cd :: outer) := fun b hn hb hf => by
    rcases List.mem_cons.mp (I.stkSub b hf) with z | z
    · subst z
      rcases hn with hn | hn
      · exact hn (Heap.get?_none_of_le (Nat.le_refl _))
      · exact hn I.free
    · exact hb z
  have sub : ∀ b ∈ frs outer, b ∈ frs (envOfC qual scope s.heap.objs.size f cd :: outer) := fun b hb => by
    unfold frs at hb ⊢
    exact List.mem_cons_of_mem _ hb
  refine wpAny_leaves_madeW (base := PySem.W.hideAll s1.heap (frs (envOfC qual scope s.heap.objs.size f cd :: outer))) (h := s1.heap) I.ok.frames rfl (fun b o q => PySem.W.of_hideAll _ q)
    (PySem.W.funFrames_hide st fun en he b hb => List.mem_filterMap.mpr ⟨en, he, hb⟩) hm fun h2 t fl _ _ up => ?_
  have cov : ∀ b o, s1.heap.get? b = some o → b ∉ frs outer → (s.heap.get? b ≠ none ∨ H1 b ≠ none) → h2.get? b = some o := fun b o q hb hn => fl.1 b o (PySem.W.hideAll_get _ q (nL b hn hb))
  obtain ⟨U, HK⟩ := un_to I.base I.hok cov (fun b o q hb => by
    obtain ⟨_, o', e, nf⟩ := st.mem (sub b hb)
    rw [q] at e; cases e
    exact up b o (hm.keeps b o q) nf) fun b hb => I.stkFree b (sub b hb)
  have ex1 : ∀ b, (s.heap.get? b ≠ none ∨ H1 b ≠ none) → ∃ o, s1.heap.get? b = some o := fun b hn => by
    rcases hn with hn | hn
    · cases q : s.heap.get? b with
      | none => exact absurd q hn
      | some o => exact I.base.there b o q (by intro z; exact nomatch z)
    · cases q : H1 b with
      | none => exact absurd q hn
      | some u => exact ok_there (I.hok b u q)
  refine ⟨ea, C, t, _, H1, rfl, I.os, I.bare, U, HK, fl, fun b o q hb hn => ?_, ?_, ?_, hE⟩
  · obtain ⟨o1, e1⟩ := ex1 b hn
    have e2 := PySem.W.hideAll_get _ e1 (nL b hn hb)
    have e3 := fl.1 b o1 e2
    have e4 : h2.get? b = some o := q
    rw [e3] at e4; cases e4
    exact e2
  · cases q : s.heap.get? ea with
    | none => rfl
    | some o =>
      obtain ⟨o1, e1⟩ := ex1 ea (.inl (by rw [q]; exact (fun z => nomatch z)))
      rw [hm.new] at e1; cases e1
  · cases q : H1 ea with
    | none => rfl
    | some u =>
      obtain ⟨o1, e1⟩ := ex1 ea (.inr (by rw [q]; exact (fun z => nomatch z)))
      rw [hm.new] at e1; cases e1

/-- a callee's refusal leaves this def too -/
theorem passes_def : Passes (CXR P w) (cxOf (CXR P w) P w K mg base N qual scope f cd A outer s H E) E := by
  intro pins σ H1 s1 e s2 I h
  obtain ⟨ea, C, t, B, H', rfl, os, bare, un, hok, fl, cov, nea, nH, hE⟩ := h
  have J := I.call' (ch := []) os un hok bare (fun b z => nomatch z)
  have st := J.stack
  have nL : ∀ b, (s.heap.get? b ≠ none ∨ H' b ≠ none) → b ∉ frs outer → b ∉ frs (envOfC qual scope s.heap.objs.size f cd :: outer) := fun b hn hb hf => by
    rcases List.mem_cons.mp (J.stkSub b hf) with z | z
    · subst z
      rcases hn with hn | hn
      · exact hn (Heap.get?_none_of_le (Nat.le_refl _))
      · exact hn J.free
    · exact hb z
  have sub : ∀ b ∈ frs outer, b ∈ frs (envOfC qual scope s.heap.objs.size f cd :: outer) := fun b hb => by
    unfold frs at hb ⊢
    exact List.mem_cons_of_mem _ hb
  have old : ∀ b, s.heap.get? b ≠ none → s1.heap.get? b ≠ none := fun b hn => by
    cases q : s.heap.get? b with
    | none => exact absurd q hn
    | some o =>
      obtain ⟨o', e⟩ := I.base.there b o q (by intro z; exact nomatch z)
      rw [e]; exact (fun z => nomatch z)
  refine wpAny_leaves_onW I.ok.frames rfl fl fun h2 fl2 up => ?_
  have covB : ∀ b o, s2.heap.get? b = some o → b ∉ frs outer → (s.heap.get? b ≠ none ∨ H' b ≠ none) → B.get? b = some o := fun b o q hb hn => cov b o q (nL b hn hb) (hn.imp (old b) id)
  obtain ⟨U, HK⟩ := un_to J.base J.hok (fun b o q hb hn => fl2.1 b o (covB b o q hb hn)) (fun b o q hb => by
    obtain ⟨_, o', e, nf⟩ := st.mem (sub b hb)
    rw [q] at e; cases e
    exact up b o q nf) fun b hb => J.stkFree b (sub b hb)
  refine ⟨ea, C, t, B, H', rfl, J.os, J.bare, U, HK, fl2, fun b o q hb hn => ?_, ?_, nH, hE⟩
  · have ex2 : ∃ o, s2.heap.get? b = some o := by
      rcases hn with hn | hn
      · cases z : s.heap.get? b with
        | none => exact absurd z hn
        | some o => exact J.base.there b o z (by intro z; exact nomatch z)
      · cases z : H' b with
        | none => exact absurd z hn
        | some u => exact ok_there (J.hok b u z)
    obtain ⟨o1, e1⟩ := ex2
    have e2 := covB b o1 e1 hb hn
    have e3 := fl2.1 b o1 e2
    have e4 : h2.get? b = some o := q
    rw [e3] at e4; cases e4
    exact e2
  · cases q : s.heap.get? ea with
    | none => rfl
    | some o => exact absurd nea (old ea (by rw [q]; exact (fun z => nomatch z)))
end

/-! ### raise C(text) -/
/-- the class object of an own exception, out of the fragment -/
theorem exc_obj {K : PySem.W.Frag} {h : Heap} {C : Addr} {bB : List Value} {nid : String} (X : K.In h) (q : PySem.W.excIn K C bB nid = true) :
    ∃ tl NS nm qn bs hd sn sub ab col dd k0 k1 k2 k3 k5 mN, h.get? C = some (excClassObj nm qn C NS bs tl hd sn sub ab col dd k0 k1 k2 k3 k5 nid) ∧ h.Ns NS mN ∧ mN "__init__" = none ∧ OwnTail h bB tl := by
  unfold PySem.W.excIn at q
  split at q
  · rename_i d0 c0 sl0 look
    split at q
    · rename_i C1 tl a0 a1 a2 a3 n0 a5 em es
      simp only [Bool.and_eq_true, beq_iff_eq, Bool.not_eq_true'] at q
      obtain ⟨⟨⟨⟨⟨z1, z2⟩, z3⟩, z4⟩, z5⟩, z6⟩ := q
      subst z1 z2
      obtain ⟨nm, bs, mro, NS, qn, hd, sn, sub, ab, col, del⟩ := c0
      dsimp only at em z3 z5 z6
      subst em z3
      have es' : sl0 = #[a0, a1, a2, a3, some (.builtin n0), a5] := by
        cases sl0 with
        | mk l =>
          have es2 : l = [a0, a1, a2, a3, some (.builtin n0), a5] := es
          rw [es2]
      subst es'
      refine ⟨tl, NS, nm, qn, bs, hd, sn, sub, ab, col, d0, a0, a1, a2, a3, a5, h.nsMap NS, X _ _ look, ?_, ?_, PySem.W.tail_of_in X z4⟩
      · exact Heap.Ns.of_isNs (PySem.W.isNs_of_in X z5)
      · exact PySem.W.nsMap_none_of_in X z5 z6
    · exact nomatch q
  · exact nomatch q

def tRaise (C : Addr) (E : XK) (t : TA) : TS := fun _ σ H => t σ H fun vs H1 => vs.length ≤ sizeLine ∧ E (.ref C) none H1
section
variable {X : Cx} {E : XK} {C : Addr} {x : Str} {e : Expr} {es : List Expr} {t : TA} {np cpos pos : Pos}
theorem ps_raise (hE : RaisesTo X E) (hc : X.calm = true) (hm : X.mg x = some (.ref C))
    (q : PySem.W.excIn X.K C [.type "ValueError", .type "Exception", .type "BaseException", .type "object"] "ValueError.__new__" = true) (ha : PA X (e :: es) t)
    (hg : Gl X x := by rfl) (hdb : (x == ("__debug__" : Str)) = false := by decide)
    (he : starEach (e :: es) X.env = (false, eval e X.env) :: starEach es X.env := by rfl) (hpl : (backTo cpos (starEach es X.env)).any (·.1) = false := by rfl) :
    PS X (.Raise (some (.Call (.Name x np) (e :: es) [] cpos)) none pos) (tRaise C E t) := by
  intro pins s σ H D I h
  obtain ⟨tl, NS, nm, qn, bs, hd, sn, sub, ab, col, dd, k0, k1, k2, k3, k5, mN, hC, hN, hni, T⟩ := exc_obj I.ok.mod.kin q
  refine wpAny_Raise_call_subU (C := C) (nm := nm) (q := qn) (N := NS) (bs := bs) (bm := tl) (hdct := hd) (sn := sn) (sub := sub) (ab := ab) (col := col) (dd := dd)
    (k0 := k0) (k1 := k1) (k2 := k2) (k3 := k3) (k5 := k5) F.excBase_ValueError (by decide) F.excBase_ValueError (mN := mN) (T.hasType F.excBase_ValueError.hasBase) (I.ok.hd hc)
    (by rw [he]; show (false || (backTo cpos (starEach es X.env)).any (·.1)) = false; rw [hpl]; rfl) hni (ld_glob I hg hm ⟨rfl, ?_⟩ hdb)
  have h0 := ha cpos pins s σ H _ I h
  rw [he] at h0 ⊢
  refine Calls.evalArgs_plain (thn h0 fun us s1 z => ?_)
  obtain ⟨vs, H1, I1, r, zl, zE⟩ := z
  exact ⟨rfl, by rw [← r.length]; exact zl, I1.bk _ _ hC, hN.keeps I1.bk, T.keeps I1.bk, fun h' ea hm' => hE pins σ H1 s1 h' ea _ us I1 hm' zE⟩
end

/-! ### a def whose refusals are wanted -/
theorem okX {P : Program} {w : World} {K : PySem.W.Frag} {mg : Str → Option Value} {base : Heap} {x qual : Str} {st : Stmt} {f : Addr} {fd : FuncData} {N ps : List Str} {k : Nat} {sp : Sp} (F : Fun K x qual st f fd) (S : FnScope N ps (defScope st)) (len : ∀ vs H Q E, sp vs H Q E → vs.length = ps.length)
    (hbody : ∀ (cdv : Value) (A : Around) (outer : List Env) (s : Shared) (H : Hp) (vs : List V) (Q : VK) (E : XK), Room k (A.deeper (envOfC qual (defScope st) s.heap.objs.size f cdv)) → sp vs H Q E →
      ∃ t, PSs (cxOf (CXR P w) P w K mg base N qual (defScope st) f cdv A outer s H E) (defBody st) t ∧ t { nx := fun _ H' => Q .non H', rt := Q } (start N vs) H) : FnOk P w K mg base (CXR P w) (k + 1) f fd ps sp := by
  obtain ⟨oc, od, kV, doc, pm, an, cdv, ct, osl, rfl, lk, hcd⟩ := F.ex
  exact fn_of lk hcd S len fun A outer s H vs Q E hr hsp => hbody cdv A outer s H vs Q E hr hsp

/-! ### try: f(..) except C as n: .. -/
def XPost (X : Cx) (pins : List (Addr × Obj)) (σ : L2.St) (E : XK) (e : Value) (s' : Shared) : Prop := ∃ H1 s1, Inv X pins σ H1 s1 ∧ CXR X.prog X.w X.stack H1 s1 E e s'
/-- an expression that may be refused -/
def PEX (X : Cx) (e : Expr) (t : L2.St → Hp → VK → XK → Prop) : Prop :=
  ∀ (pins : List (Addr × Obj)) (s : Shared) (σ : L2.St) (H : Hp) (Q : VK) (E : XK), Inv X pins σ H s → t σ H Q E → wpAny (model X.prog X.w) X.A (eval e X.env) (EP X pins σ Q) (XPost X pins σ E) s
section
variable {X : Cx} {k n : Nat} {x : Str} {ps : List Str} {sp : Sp} {p pos : Pos} {e : Expr} {es : List Expr} {t : TA}
end

/-- an exception that was caught: its class is known -/
def excO (ea : Addr) (C : Value) : HO := .ext fun h => ∃ o, h.get? ea = some o ∧ o.cls = C
/-- within the suite of an except clause -/
abbrev Cx.inH (X : Cx) (ea : Addr) (xe : Value → Shared → Prop) : Cx := { X with A := X.A.mark (some (.ref ea)), calm := false, xe := xe }
theorem ok_inH {X : Cx} {ea : Addr} {xe : Value → Shared → Prop} (ok : X.Ok) : (Cx.inH X ea xe).Ok :=
  ⟨ok.mod, ok.kind, ok.glob, ok.blt, ok.above, ok.inj, ok.has, ok.cab, (fun z => nomatch z), ok.frames, ok.stk, ok.exf, ok.bs, ok.bsz, ok.noex, ok.exfs, ok.funs, ok.frf⟩
section
variable {X : Cx} {pins : List (Addr × Obj)} {σ : L2.St} {H : Hp} {s : Shared} {ea : Addr} {xe : Value → Shared → Prop}
theorem Inv.inH (I : Inv X pins σ H s) : Inv (Cx.inH X ea xe) pins σ H s := ⟨ok_inH I.ok, I.os, I.bare, I.base, I.loc, I.cell, I.free, I.freeC, I.pin, I.hok, I.len⟩
end
/-- what the fragment says of a class that is caught by another one (both own exceptions) -/
structure CatchK (K : PySem.W.Frag) (C B : Addr) : Prop where
  tyB : PySem.W.typeIn K (.ref B) = some (.type "type")
  clB : (PySem.W.clsIn K B).isSome = true
  exB : PySem.W.subIn K (.ref B) (.type "BaseException") = some true
  sub : PySem.W.subIn K (.ref C) (.ref B) = some true
theorem looks_isType {K : PySem.W.Frag} {M : Model} {h : Heap} {B : Addr} (X : K.In h) (c : (PySem.W.clsIn K B).isSome = true) : PySem.W.Looks M h (isType (.ref B)) true := by
  unfold PySem.W.clsIn at c
  split at c
  · rename_i look
    intro A' Q' E' s' k q
    unfold isType loadHead
    refine wpAny_bind ?_
    exact wpAny_loadPart (k _ _ (X _ _ look)) (wpAny_pure q)
  · exact nomatch c
end L3
/-! OWN RULES: the except clause, isinstance of what was caught. -/
namespace L3
open PySem PySem.Spec PyProof.Rows L2

section
variable {X : Cx} {pins : List (Addr × Obj)} {σ : L2.St} {H : Hp} {s : Shared}
end

def tTryE (K : PySem.W.Frag) (te : L2.St → Hp → VK → XK → Prop) (B : Addr) (j : Nat) (ts : TS) : TS := fun D σ H =>
  te σ H (fun _ H1 => D.nx σ H1) fun C _ H' => ∃ c, C = .ref c ∧ CatchK K c B ∧
    ∀ ea, H' ea = none → ts { nx := fun σ' H2 => D.nx (σ'.set j none) H2, rt := fun _ _ => False } (σ.set j (some (.ref ea))) (upd H' ea (excO ea (.ref c)))
section
variable {X : Cx} {e : Expr} {te : L2.St → Hp → VK → XK → Prop} {B : Addr} {j : Nat} {ts : TS} {x n : Str} {b0 : Stmt} {suite : List Stmt} {p1 np hp pos : Pos}
end

/-! ### isinstance of a caught exception -/
/-- what the fragment says of an own exception class, for isinstance -/
structure ExcK (K : PySem.W.Frag) (C : Addr) : Prop where
  cl : (PySem.W.clsIn K C).isSome = true
  ga : PySem.W.findIn K (.ref C) "__getattribute__" = some (some (.builtin "BaseException.__getattribute__"))
  no : PySem.W.findIn K (.ref C) "__getattr__" = some none
  ca : PySem.W.findIn K (.ref C) "__class__" = some (some (.builtin "object.__class__"))
  ob : PySem.W.subIn K (.ref C) (.type "object") = some true
  be : PySem.W.subIn K (.ref C) (.type "BaseException") = some true
end L3
/-! OWN RULES: the class of a caught exception. -/
namespace L3
open PySem PySem.Spec PySem.Calls PySem.Builtin PySem.Builtin.Getset_descriptor PyProof.Rows L2
section
variable {prog : Program} {w : World} {A : Around} {E : Value → Shared → Prop} {h : Heap} {g : Array GenState} {d : Drawn} {t : Nat} {os : OsState} {a C : Addr} {o : Obj} {K : PySem.W.Frag}
theorem xk_ty (hx : h.get? a = some o) (hc : o.cls = .ref C) (M : Model) : PySem.W.Looks M h (typeOf (.ref a)) (.ref C) := hc ▸ (PySem.W.Looks.ld hx).andThen .now
theorem xk_get {R : Result → Shared → Prop} {tp : Value} (X : K.In h) (x : ExcK K C) (hx : h.get? a = some o) (hc : o.cls = .ref C) (hq : R (.ok (.ret (.ref C))) ⟨h, g, d, t, os⟩) :
    codeAny (model prog w) A (.call (.builtin "getset_descriptor.__get__") ⟨[.builtin "object.__class__", .ref a, tp], []⟩) R ⟨h, g, d, t, os⟩ := by
  have L0 := xk_ty hx hc (model prog w)
  have L1 := PySem.W.looks_subIn (M := model prog w) X x.ob
  refine codeAny_call_builtin PySem.W.KF.slot_gs.plain PySem.W.KF.entry_gs (PySem.W.KF.slot_gs.check _ _ _ _ _ _ _ _ PySem.W.KF.type_class (PySem.W.KF.args_gs _ _ _) ?_)
  unfold Builtin.«getset_descriptor.__get__»; unfold descrGet
  rw [PySem.W.dga_obj]
  refine wpAny_bind (wpAny_pure ?_)
  unfold descrGetter descrCheckInstance; unfold descrNameAndClass isInstance
  simp only [PySem.W.KF.owner_class]
  repeat lk
  refine ⟨Code.quiet_builtin _ (by decide +kernel), codeAny_builtin PySem.W.KF.entry_class ?_⟩
  unfold Builtin.«object.__class__»; unfold shownTypeOf
  repeat lk
  exact hq
theorem xk_entry {tk : Tok} {Q : Fin → Shared → Prop} (X : K.In h) (x : ExcK K C) (hx : h.get? a = some o) (hc : o.cls = .ref C) (hq : Q (.done (.ret (.ref C))) ⟨h, g, d, t, os⟩) :
    wpAny (model prog w) A (Builtin.«object.__getattribute__» ⟨[.ref a, .str "__class__" tk], []⟩) Q E ⟨h, g, d, t, os⟩ := by
  have L0 := xk_ty hx hc (model prog w)
  have L1 := PySem.W.looks_findIn (M := model prog w) X x.ca
  have f5 := F.typeOf_object_class
  have f6 := F.slot_gs_get.lookup
  have f7 := F.slot_gs_set.lookup
  repeat (any_goals (first | assumption | with_reducible refine PySem.W.Looks.at L0 ?_ | with_reducible refine PySem.W.Looks.at L1 ?_ | (with_reducible refine wpAny_loadPart_at hx ?_; rw [hc]) | wp_step))
  refine xk_get X x hx hc ?_
  repeat (any_goals (first | assumption | wp_step))
theorem xk_check {M : Model} {nameV : Value} {Q : Unit → Shared → Prop} (X : K.In h) (x : ExcK K C) (hx : h.get? a = some o) (hc : o.cls = .ref C) (hq : Q () ⟨h, g, d, t, os⟩) :
    wpAny M A (checkBuiltinCall "BaseException.__getattribute__" ⟨[.ref a, nameV], []⟩) Q E ⟨h, g, d, t, os⟩ := by
  have k1 : builtinKind "BaseException.__getattribute__" = some .slot := by decide +kernel
  have k2 : splitId "BaseException.__getattribute__" = some ("BaseException", "__getattribute__") := by decide +kernel
  have L : PySem.W.Looks M h (isInstance (.ref a) (.type "BaseException")) true := (xk_ty hx hc M).andThen (PySem.W.looks_subIn X x.be)
  have ha := F.args_bexc_ga (.ref a) nameV
  simp only [checkBuiltinCall, k1, k2]
  refine wpAny_bind (L.at ?_)
  repeat (any_goals (first | assumption | wp_step))
theorem xk_by {tk : Tok} {Q : Value → Shared → Prop} (X : K.In h) (x : ExcK K C) (hx : h.get? a = some o) (hc : o.cls = .ref C) (hq : Q (.ref C) ⟨h, g, d, t, os⟩) :
    wpAny (model prog w) A (getAttrBy (.ref a) (.str "__class__" tk) false false) Q E ⟨h, g, d, t, os⟩ := by
  have L0 := xk_ty hx hc (model prog w)
  have L1 := PySem.W.looks_findIn (M := model prog w) X x.ga
  have L2 := PySem.W.looks_findIn (M := model prog w) X x.no
  have f3 := F.attr_ValueError.ga.bind (.ref a)
  have z0 : (false && onTheHeap (Value.builtin "BaseException.__getattribute__")) = false := rfl
  have z2 : (Value.builtin "BaseException.__getattribute__" == Value.builtin "object.__getattribute__") = false := by decide +kernel
  have z1 : (onTheHeap (Value.ref C) && Value.builtin "BaseException.__getattribute__" == Value.builtin "object.__getattribute__") = false := by rw [z2]; rfl
  repeat (any_goals (first | assumption | with_reducible refine PySem.W.Looks.at L0 ?_ | with_reducible refine PySem.W.Looks.at L1 ?_ | with_reducible refine PySem.W.Looks.at L2 ?_ | wp_step))
  refine codeAny_call_builtin F.attr_ValueError.ga.plain F.entry_bexc_ga (xk_check X x hx hc (xk_entry X x hx hc ?_))
  repeat (any_goals (first | assumption | wp_step))
theorem xk_attr {Q : Option Value → Shared → Prop} (X : K.In h) (x : ExcK K C) (hx : h.get? a = some o) (hc : o.cls = .ref C) (hq : Q (some (.ref C)) ⟨h, g, d, t + 1, os⟩) :
    wpAny (model prog w) A (getAttr? (.ref a) "__class__") Q E ⟨h, g, d, t, os⟩ := by
  unfold getAttr?; unfold getAttrBy?
  repeat (any_goals (first | assumption | with_reducible apply xk_by X x hx hc | wp_step))
end
theorem kitx_exc {K : PySem.W.Frag} {a C : Addr} (x : ExcK K C) : PySem.W.KitX K (.ref a) (.ref C) (fun h => ∃ o, h.get? a = some o ∧ o.cls = .ref C) where
  ty := fun M h _ p => by
    obtain ⟨o, h1, h2⟩ := p
    exact xk_ty h1 h2 M
  it := fun _ _ X _ => looks_isType X x.cl
  ne := fun h tp dd its n sl X htp => by
    refine Bool.eq_false_iff.mpr fun q => ?_
    have e : C = tp := Value.ref.inj (beq_iff_eq.mp q)
    subst e
    have c := x.cl
    unfold PySem.W.clsIn at c
    split at c
    · rename_i look
      have z := (X _ _ look).symm.trans htp
      cases z
    · exact nomatch c
  ca := fun {_ _ _ _ _ s} X p k => by
    obtain ⟨hh, g, d, t, os⟩ := s
    obtain ⟨o, h1, h2⟩ := p
    exact xk_attr X x h1 h2 k

/-- a value's type, exceptions that were caught among them -/
inductive TyE (K : PySem.W.Frag) (H : Hp) : V → Value → Prop where
  | of {x : V} {t : Value} : TyX K H x t → TyE K H x t
  | exc {a C : Addr} : ExcK K C → H a = some (excO a (.ref C)) → TyE K H (.ref a) (.ref C)
section
variable {X : Cx} {pins : List (Addr × Obj)} {σ : L2.St} {H : Hp} {s : Shared}
theorem TyE.kit {x : V} {u t : Value} (I : Inv X pins σ H s) (rx : RelV x u) (ty : TyE X.K H x t) : u ≠ .builtin "__main__.__loader__#opaque" ∧ ∃ HP : Heap → Prop, PySem.W.KitX X.K u t HP ∧ HP s.heap := by
  cases ty with
  | of h => exact TyX.kit I rx h
  | @exc a C xk e =>
    cases (show u = Value.ref a from rx)
    obtain ⟨p, _, _⟩ := I.hok a _ e
    exact ⟨fun z => (nomatch z), _, kitx_exc xk, p⟩
end
section
variable {X : Cx}
theorem call_isE : CallR X (.builtin "isinstance") (fun xs H Q => ∃ x c t b, xs = [x, c] ∧ TyE X.K H x t ∧ isCls c = true ∧ PySem.W.kitOne X.K t (vOf c) = some b ∧ Q (.bl b) H) := by
  intro pins s σ H xs us Q I r h
  obtain ⟨x, c, t, b, rfl, ty, hc, hk, q⟩ := h
  cases r with
  | cons r1 r2 =>
    cases r2 with
    | cons r2 r3 =>
      cases r3
      cases vOf_of hc r2
      obtain ⟨hne, HP, kx, hp⟩ := TyE.kit I r1 ty
      exact PySem.W.kia_one kx I.kIn hp hk hne fun tk => ⟨.bl b, H, I.tok tk, rfl, q⟩
end
end L3
/-! THE LAW'S ATTACHMENT, a def of the text by the fragment. -/
namespace L3
open PySem PySem.Spec PyProof.Rows L2
structure HasDef (K : PySem.W.Frag) (x : Str) (st : Stmt) : Prop where
  ex : ∃ (f : Addr) (fd : FuncData), Fun K x x st f fd ∧ PySem.W.nsIn K mainGlobals x = some (some (.ref f))
theorem hasDef_mk {K : PySem.W.Frag} {x : Str} {st : Stmt} {f : Addr} {oc : Value} {od an : Option Addr} {osl : Array (Option Value)} {kV doc pm cdv ct : Value} (a : PySem.W.nsIn K mainGlobals x = some (some (.ref f)))
    (l : K.lookup f = some ⟨oc, od, .func (PySem.W.fnOf x x (defArgs st) (defBody st) (defScope st) .none kV doc pm an cdv ct), osl⟩) (c : PySem.W.codeIn K cdv x = true) (k : PySem.W.keepIn K (.ref f) = true) : HasDef K x st :=
  ⟨f, _, fun_mk l c k, a⟩
theorem cal_of {P : Program} {w : World} {K : PySem.W.Frag} {mg : Str → Option Value} {base h : Heap} {CX : CXT} {k : Nat} {x : Str} {st : Stmt} {ps : List Str} {sp : Sp} (X : K.In h) (G : h.Ns mainGlobals mg) (D : HasDef K x st)
    (hb : ∀ (kV doc pm : Value) (an : Option Addr) (cdv ct : Value) (us : List Value), us.length = ps.length → bindArgs (PySem.W.fnOf x x (defArgs st) (defBody st) (defScope st) .none kV doc pm an cdv ct) ⟨us, []⟩ = pure (ps.zip us))
    (ok : ∀ (f : Addr) (fd : FuncData), Fun K x x st f fd → FnOk P w K mg base CX k f fd ps sp) : Cal P w K mg base CX k x ps sp := by
  obtain ⟨f, fd, F, a⟩ := D.ex
  exact ⟨f, fd, ok f fd F, F.binds hb, F.kp, PySem.W.mg_of X G a⟩
/-- a module's constant tuple -/
structure HasTup (K : PySem.W.Frag) (x : Str) (xs : List V) : Prop where
  ex : ∃ a, PySem.W.nsIn K mainGlobals x = some (some (.ref a)) ∧ ∀ H, SqT K H a xs
/-- what law(script) promises: for a list of at most 63 ints the answer is True -/
def spLaw (K : PySem.W.Frag) : Sp := fun vs H Q _ => ∃ (a : Addr) (ns : List Int), vs = [.ref a] ∧ SqL K H a (ns.map V.int) ∧ ns.length ≤ 63 ∧ ∀ H', Q (.bl true) H'
theorem walkL {l : PySem.W.OpenLaw} {q : Program} {loose : List Str} {XP : (Str → Option Value) → Heap → Prop} {YP : World → Heap → Prop} {d : DefRec} {K : Params → PySem.W.Frag} (hn : l.most = some 63) (hdf : d.params.defaults = [])
    (hY : ∀ (w : World) (h : Heap), YP w h → (K w.params).In h)
    (F : ∀ (w : World) (mg : Str → Option Value) (fa : Addr) (h : Heap), (K w.params).In h → h.Ns mainGlobals mg → mg d.name = some (.ref fa) →
      ∃ fd : FuncData, (∀ (s : Shared) (u : Value), BindsTo s fd ⟨[u], []⟩ [("_law_script", u)]) ∧ ∀ base : Heap, (K w.params).In base → base.Ns mainGlobals mg → FnOk l.prog w (K w.params) mg base CX0 40 fa fd ["_law_script"] (spLaw (K w.params))) :
    PySem.W.WalkO q loose XP YP l.row.toRowW d [] (fun f vs => PySem.call f vs) :=
  L2.walk_of (n := 63) (k := 40) (x := "_law_script") (CX := fun _ => CX0) (sp := fun w => spLaw (K w.params)) hn (by decide) hdf ⟨rfl, by decide, by decide⟩ hY F (fun _ _ a ns hl _ hS => ⟨a, ns, rfl, hS, hl, fun _ => rfl⟩) fun _ _ _ _ _ z => z
theorem law_of {P : Program} {w : World} {K : PySem.W.Frag} {mg : Str → Option Value} {h : Heap} {st : Stmt} {fa : Addr} (X : K.In h) (G : h.Ns mainGlobals mg) (hmg : mg "law" = some (.ref fa)) (D : HasDef K "law" st)
    (hb : ∀ (kV doc pm : Value) (an : Option Addr) (cdv ct : Value) (u : Value), bindArgs (PySem.W.fnOf "law" "law" (defArgs st) (defBody st) (defScope st) .none kV doc pm an cdv ct) ⟨[u], []⟩ = pure [(("_law_script" : Str), u)])
    (ok : ∀ (base : Heap), K.In base → base.Ns mainGlobals mg → ∀ (f : Addr) (fd : FuncData), Fun K "law" "law" st f fd → FnOk P w K mg base CX0 40 f fd ["_law_script"] (spLaw K)) :
    ∃ fd : FuncData, (∀ (s : Shared) (u : Value), BindsTo s fd ⟨[u], []⟩ [("_law_script", u)]) ∧ ∀ base : Heap, K.In base → base.Ns mainGlobals mg → FnOk P w K mg base CX0 40 fa fd ["_law_script"] (spLaw K) := by
  obtain ⟨f, fd, F, a⟩ := D.ex
  have e := hmg.symm.trans (PySem.W.mg_of X G a)
  cases e
  refine ⟨fd, fun s u => ?_, fun base kb nb => ok base kb nb _ fd F⟩
  obtain ⟨oc, od, kV, doc, pm, an, cdv, ct, osl, rfl, lk, hcd⟩ := F.ex
  exact .of_eq (hb kV doc pm an cdv ct u)

/-! ### numbers -/
def nD (q : Rat) : PyData := .tuple [.int q.num, .int (q.den : Int)]
/-- a def hands back the datum d, all else as it was -/
def Ret (K : PySem.W.Frag) (H : Hp) (Q : VK) (d : PyData) : Prop := ∀ v H', Same H H' → DV K H' v d → Q v H'
/-- a number of a size that is reckoned with -/
def Sz (n : Nat) (q : Rat) : Prop := q.num.natAbs < 2 ^ n ∧ q.den < 2 ^ n
theorem eqv_num (p q : Rat) : PyData.eqv (nD p) (nD q) = decide (p = q) := by
  simp only [nD, PyData.eqv, PyData.eqvAll, Bool.and_true]
  by_cases h : p = q
  · subst h; simp
  · rw [decide_eq_false h]
    refine Bool.eq_false_iff.mpr fun z => h ?_
    simp only [Bool.and_eq_true, beq_iff_eq] at z
    exact Rat.ext z.1 (by omega)
theorem noL_num (q : Rat) : noL (nD q) = true := by simp [noL, noLs, nD]
end L3

set_option Elab.async false
set_option linter.all false
set_option maxRecDepth 100000
set_option maxHeartbeats 4000000
/-! OWN RULES: list comprehensions over one clause. -/
namespace L3
open PySem PySem.Spec PyProof.Rows L2

section
variable {prog : Program} {w : World} {A : Around} {R : Result → Shared → Prop} {s : Shared}
/-- the comprehension's loop, the step ahead of the store kept -/
theorem comp_loop {elt target iter : Expr} {ifs : List Expr} {scope : Scope} {pos : Pos} {it acc : Value} {env : Env} (W : Nat → Shared → Prop)
    (turn : ∀ n s, W n s → wpAny (model prog w) A (pyNext it) (fun r s1 => match r with
      | none => R (.ok .next) s1
      | some v => wpAny (model prog w) A (letOwnedTupleGo target it v) (fun _ s2 => wpAny (model prog w) A (assign target env v) (fun _ s3 =>
          wpAny (model prog w) A (forIn ifs true fun c r => if r = true then do let ok ← isTrue c env (eval c env); pure (ForInStep.yield ok) else pure (ForInStep.yield r)) (fun ok s4 =>
            if ok = true then wpAny (model prog w) A (eval elt env) (fun y s5 => wpAny (model prog w) A (call (.builtin "list.append") [acc, y]) (fun _ s6 => ∃ m, m < n ∧ W m s6) (fun _ _ => False) s5) (fun _ _ => False) s4
            else ∃ m, m < n ∧ W m s4) (fun _ _ => False) s3) (fun _ _ => False) s2) (fun _ _ => False) s1) (fun _ _ => False) s)
    (n : Nat) (h : W n s) : codeAny (model prog w) A (.compLoop (.ListComp elt [⟨target, iter, ifs, 0⟩] scope pos) 0 it acc env) R s := by
  refine codeAny_loop rfl W (fun n s hW => ?_) n h
  show wpAny _ A ((compTurn (.ListComp elt [⟨target, iter, ifs, 0⟩] scope pos) 0 it acc env).onRaise (fun x => do noteFrame x env; theTreesLotGoes x)) _ _ s
  refine wpAny_noted ?_
  rw [compTurn_list]
  refine wpAny_bind (wpAny_standAt (wpAny_bind (wpAny_mono (turn n s hW) (fun r s1 h1 => ?_) fun _ _ z => z.elim)))
  cases r with
  | none => exact wpAny_pure h1
  | some v =>
    refine wpAny_bind (wpAny_mono h1 (fun _ s2 h2 => ?_) fun _ _ z => z.elim)
    refine wpAny_bind (wpAny_mono h2 (fun _ s3 h3 => ?_) fun _ _ z => z.elim)
    refine wpAny_bind (wpAny_mono h3 (fun ok s4 h4 => ?_) fun _ _ z => z.elim)
    cases ok with
    | false => exact wpAny_pure ⟨rfl, h4⟩
    | true =>
      refine wpAny_bind (wpAny_bind (wpAny_mono h4 (fun y s5 h5 => ?_) fun _ _ z => z.elim))
      exact wpAny_bind (wpAny_mono h5 (fun _ s6 h6 => wpAny_pure (wpAny_pure ⟨rfl, h6⟩)) fun _ _ z => z.elim)
end

/-- the context of a comprehension's block: its own name first, then the def's -/
abbrev cxC (X : Cx) (x : Str) (scope : Scope) (cl : List (Str × Addr)) (C : Addr) (s0 : Shared) (H0 : Hp) (fp : List Addr) : Cx :=
  { X with N := x :: X.N, s₀ := s0, H₀ := H0, env := compEnvC scope cl C X.env, outer := X.stack, ex := fp, fn := fun _ => false, pn := [], xe := fun _ _ => False }
/-- what the text says of a comprehension's names -/
structure CompOk (X : Cx) (x : Str) (scope : Scope) (cl : List (Str × Addr)) : Prop where
  clos : closureFor scope X.env = pure cl
  sub : ∀ y c, cl.lookup y = some c → X.env.cells.lookup y = some c
  has : ∀ y, (relabel scope X.env).names.lookup y = some .cell ∨ (relabel scope X.env).names.lookup y = some .free → ∃ c, cl.lookup y = some c
  nocell : ∀ y ∈ scope.names, y.2 ≠ .cell
  kind : scope.kind = .function
  names : ∀ y ∈ scope.names, y.2 = .local → scope.names.lookup y.1 = some .local
  tgt : scope.names.lookup x = some .local
  cellv : ∀ y ∈ X.N, Vis (relabel scope X.env) y → ((relabel scope X.env).names.lookup y = some .cell ∨ (relabel scope X.env).names.lookup y = some .free) ∧ (X.env.scope.names.lookup y = some .cell ∨ X.env.scope.names.lookup y = some .free)
  nd : x ∉ X.N
def tLC (wi : TI) (tt : TT) (te : TE) : TE := fun σ H Q => wi σ H fun J H1 => ∀ acc, H1 acc = none → ∃ W : Nat → Nat → List V → Hp → Prop, (∃ m, W 0 m [] (upd H1 acc (.lst []))) ∧
  ∀ i m xs H, W i m xs H → H acc = some (.lst xs) ∧ ((J.stop i H ∧ Q (.ref acc) H) ∨ (J.go i H ∧ ∀ y H', J.yld i H y H' →
    tt (some y :: σ) H' fun ok H2 => if ok = true then te (some y :: σ) H2 fun v H3 => H3 acc = some (.lst xs) ∧ xs.length < sizeLine ∧ ∃ m', m' < m ∧ W (i + 1) m' (xs ++ [v]) (upd H3 acc (.lst (xs ++ [v]))) else ∃ m', m' < m ∧ W (i + 1) m' xs H2))
/-- the tests of a clause: none, or one -/
def PIfs (X : Cx) (ifs : List Expr) (t : TT) : Prop :=
  ∀ (pins : List (Addr × Obj)) (s : Shared) (σ : L2.St) (H : Hp) (Q : Bool → Hp → Prop), Inv X pins σ H s → t σ H Q →
    wpAny (model X.prog X.w) X.A (forIn ifs true fun c r => if r = true then do let ok ← isTrue c X.env (eval c X.env); pure (ForInStep.yield ok) else pure (ForInStep.yield r)) (TP X pins σ Q) X.xe s
def tTrue : TT := fun _ H Q => Q true H
theorem pifs_nil {X : Cx} : PIfs X [] tTrue := fun _ _ _ H _ I h => wpAny_tests_nil ⟨H, I, h⟩
section
variable {X : Cx} {x : Str} {scope : Scope} {cl : List (Str × Addr)} {wi : TI} {tt : TT} {te : TE} {elt iter : Expr} {ifs : List Expr} {px pos : Pos}
theorem pe_lc (ok : CompOk X x scope cl) (hN : X.N.Nodup) (hc : X.calm = true) (hi : PI X (.Name x px) iter wi) (ht : ∀ C s0 H0 fp, PIfs (cxC X x scope cl C s0 H0 fp) ifs tt) (he : ∀ C s0 H0 fp, PE (cxC X x scope cl C s0 H0 fp) elt te)
    (hf : ∀ v, foldedSetIterable iter X.env v = pure v := by intro _; rfl) : PE X (.ListComp elt [⟨.Name x px, iter, ifs, 0⟩] scope pos) (tLC wi tt te) := by
  intro pins s σ H Q I h
  rw [eval_ListComp]
  refine wpAny_comprehension_free (use := none) rfl hf ok.clos ok.kind ok.names (thn (hi pins s σ H _ I h) fun v s1 h1 => thn h1 fun itv s2 h2 => ?_)
  obtain ⟨it, fp, tn, J, H2, e, I2, T, st2, f2, W⟩ := h2
  subst e
  obtain ⟨W, ⟨m0, w0⟩, turn⟩ := W s2.heap.objs.size (I2.hok.fresh (Nat.le_refl _))
  have I3 : Inv X pins σ (upd H2 s2.heap.objs.size (.lst [])) { s2 with heap := s2.heap.push { cls := .type "list", data := .seq ([] : List Value).toArray } } := I2.lnew (t' := s2.toks) (its := []) .nil (Nat.zero_le _)
  refine wpAny_newObj_type ?_
  generalize hs3 : ({ s2 with heap := s2.heap.push { cls := .type "list", data := .seq ([] : List Value).toArray } } : Shared) = s3 at I3
  have hh3 : s3.heap = s2.heap.push { cls := .type "list", data := .seq ([] : List Value).toArray } := by rw [← hs3]
  refine wpAny_newFunctionEnv ok.nocell ((fun y hy => nomatch hy)) (fun h4 ns4 sb4 => ?_) ok.kind
  -- the iterator's objects
  have fpo : ∀ b ∈ fp, ∃ o, s2.heap.get? b = some o := fun b hb => let ⟨o, e, _⟩ := T.obj _ _ st2 b hb; ⟨o, e⟩
  have old : ∀ b o, s3.heap.get? b = some o → h4.get? b = some o := fun b o e => sb4.extBut b o (Nat.ne_of_lt (Heap.lt_size e)) (Heap.get?_push_of_some _ e)
  have fplt : ∀ b ∈ fp, b < s3.heap.objs.size := fun b hb => by
    obtain ⟨o, e⟩ := fpo b hb
    rw [hh3, Heap.size_push]
    exact Nat.lt_succ_of_lt (Heap.lt_size e)
  have fp3 : ∀ b ∈ fp, FpOk X pins (upd H2 s2.heap.objs.size (.lst [])) b := fun b hb => by
    obtain ⟨o, e⟩ := fpo b hb
    refine ⟨?_, (f2 b hb).2⟩
    rw [upd_ne (Nat.ne_of_lt (Heap.lt_size e))]
    exact (f2 b hb).1
  have Cnew : ∀ b o, s3.heap.get? b = some o → b ≠ s3.heap.objs.size := fun b o e => Nat.ne_of_lt (Heap.lt_size e)
  have celln : ∀ y c, X.env.cells.lookup y = some c → c ≠ s3.heap.objs.size := fun y c e => by
    obtain ⟨v, o, ho, _⟩ := I3.cell y c e
    exact Cnew c o ho
  have okC : (cxC X x scope cl s3.heap.objs.size s3 (upd H2 s2.heap.objs.size (.lst [])) fp).Ok := by
    refine ⟨I3.ok.mod, ok.kind, I3.ok.glob, I3.ok.blt, Nat.le_refl _, fun y z c e1 e2 => I3.ok.inj y z c (ok.sub y c e1) (ok.sub z c e2), fun y hy => ok.has y hy, (fun y c e => nomatch e), I3.ok.hd, I3.ok.frames, .inl rfl, fun b hb => ?_, I3.bs, Nat.le_trans I3.ok.bsz I3.sz, fun b o e hb => ?_, fun b hb hf => ?_, I3.stack, I3.stkFree⟩
    · exact ⟨Nat.ne_of_lt (fplt b hb), fun y c e => (fp3 b hb).2.2.2.2.1 y c (ok.sub y c e)⟩
    · rcases (fp3 b hb).2.2.2.1 with z | z
      · exact I3.ok.noex b o e z
      · exact absurd (Nat.lt_of_lt_of_le (Heap.lt_size e) (Nat.le_trans I3.ok.bsz z)) (Nat.lt_irrefl _)
    · rcases List.mem_cons.mp (I3.stkSub b hf) with z | z
      · exact (fp3 b hb).2.1 z
      · exact (fp3 b hb).2.2.1 z
  obtain ⟨m3, hn3, hl3⟩ := I3.loc
  have I4 : Inv (cxC X x scope cl s3.heap.objs.size s3 (upd H2 s2.heap.objs.size (.lst [])) fp) [] (none :: σ) (upd H2 s2.heap.objs.size (.lst [])) { s3 with heap := h4, toks := s3.toks + 0 } := by
    refine ⟨okC, rfl, I3.bare, Un.kept old, ⟨_, ns4, fun i y v e1 e2 e3 => ?_⟩, fun y c e => ?_, I3.hok.fresh (Nat.le_refl _), fun y c e => I3.freeC y c (ok.sub y c e), (fun p hp => nomatch hp), I3.hok.kept old, ?_⟩
    · cases i with
      | zero => exact nomatch e2
      | succ i =>
        have e1' : X.N[i]? = some y := by simpa using e1
        have e2' : σ[i]? = some (some v) := by simpa using e2
        obtain ⟨kc, ko⟩ := ok.cellv y (List.mem_of_getElem? e1') e3
        have vis : Vis X.env.scope y := ko.elim (fun z => .inr (.inl z)) fun z => .inr (.inr z)
        obtain ⟨u, r, l⟩ := hl3 i y v e1' e2' vis
        refine ⟨u, r, .inr ⟨kc, ?_⟩⟩
        obtain ⟨c, ec⟩ := ok.has y kc
        rcases l with ⟨k, _⟩ | ⟨_, c', ec', z⟩
        · have k' : X.env.scope.names.lookup y = some .local := k
          rcases ko with ko | ko
          · rw [k'] at ko; cases ko
          · rw [k'] at ko; cases ko
        · have e4 := ok.sub y c ec
          rw [ec'] at e4; cases e4
          obtain ⟨o, e, d⟩ := z
          exact ⟨c, ec, o, old _ o e, d⟩
    · obtain ⟨v, o, ho, hd⟩ := I3.cell y c (ok.sub y c e)
      exact ⟨v, o, old c o ho, hd⟩
    · show (none :: σ).length = (x :: X.N).length
      rw [List.length_cons, List.length_cons, I3.len]
  have st4 : tn 0 h4 := T.keep _ _ _ st2 fun b hb o e => old b o (by rw [hh3]; exact Heap.get?_push_of_some _ e)
  have fin : ∀ {σ' : L2.St} {H' : Hp} {s' : Shared}, Inv (cxC X x scope cl s3.heap.objs.size s3 (upd H2 s2.heap.objs.size (.lst [])) fp) [] σ' H' s' → Q (.ref s2.heap.objs.size) H' →
      ∃ m, s'.heap.Ns s3.heap.objs.size m ∧ ∀ h', Heap.SameBut s3.heap.objs.size s'.heap h' → EP X pins σ Q (.ref s2.heap.objs.size) { s' with heap := h' } := fun {σ' H' s'} J q => by
    obtain ⟨m, hn, _⟩ := J.loc
    refine ⟨m, hn, fun h' sb => ⟨.ref s2.heap.objs.size, H', ?_, rfl, q⟩⟩
    have hC : H' s3.heap.objs.size = none := J.free
    have un : Un (frs X.stack) fp (upd H2 s2.heap.objs.size (.lst [])) H' s3.heap h' := by
      refine ⟨fun b o e z hb hx => ?_, fun b o e z hb hx => ?_, J.base.free, fun b o e hx => ?_, J.base.tups, J.base.frzs, J.base.tbls⟩
      · exact (sb.2 b (Cnew b o e)).trans (J.base.keep b o e z hb hx)
      · obtain ⟨sl, e1⟩ := J.base.slot b o e z hb hx
        exact ⟨sl, (sb.2 b (Cnew b o e)).trans e1⟩
      · obtain ⟨o', e1⟩ := J.base.there b o e hx
        exact ⟨o', (sb.2 b (Cnew b o e)).trans e1⟩
    have hok : HOk X.prog X.w H' h' := fun b ob e => by
      refine (J.hok b ob e).stay (fun c w' hc q => (sb.2 c ?_).trans q) (fun _ q => q) fun _ _ q => q
      intro z
      subst z
      rcases hc with hc | hc
      · rw [← hc, hC] at e; cases e
      · rw [hC] at hc; cases hc
    refine I3.call' (s' := { s' with heap := h' }) (ch := fp) J.os un hok J.bare fun b hb => ?_
    obtain ⟨_, h2, _, h4, h5, h6⟩ := fp3 b hb
    exact ⟨h4, h2, h5, h6⟩
  have stat : ∀ {H' : Hp}, (∀ b ∈ fp, H' b = none) → ∀ b ∈ fp, FpOk (cxC X x scope cl s3.heap.objs.size s3 (upd H2 s2.heap.objs.size (.lst [])) fp) [] H' b := fun hn b hb =>
    ⟨hn b hb, (okC.exf b hb).1, okC.exfs b hb, .inl hb, (okC.exf b hb).2, (fun p hp => nomatch hp)⟩
  have loop : codeAny (model X.prog X.w) X.A (.compLoop (.ListComp elt [⟨.Name x px, iter, ifs, 0⟩] scope pos) 0 (.ref it) (.ref s2.heap.objs.size) (compEnvC scope cl s3.heap.objs.size X.env))
      (compPost (model X.prog X.w) X.A X.xe none (EP X pins σ Q) (.ref s2.heap.objs.size) s3.heap.objs.size) { s3 with heap := h4, toks := s3.toks + 0 } := by
    refine comp_loop (fun n s' => ∃ i xs t H', Inv (cxC X x scope cl s3.heap.objs.size s3 (upd H2 s2.heap.objs.size (.lst [])) fp) [] (t :: σ) H' s' ∧ tn i s'.heap ∧ (∀ b ∈ fp, H' b = none) ∧ W i n xs H') ?_ m0 ⟨0, [], none, _, I4, st4, fun b hb => (fp3 b hb).1, w0⟩
    rintro n s5 ⟨i, xs, t, H5, I5, st5, fr5, w5⟩
    obtain ⟨hacc, alt⟩ := turn i n xs H5 w5
    rcases alt with ⟨stop, qn⟩ | ⟨go, step⟩
    · refine thn (T.done (cxC X x scope cl s3.heap.objs.size s3 (upd H2 s2.heap.objs.size (.lst [])) fp) rfl rfl rfl hc i [] s5 _ H5 _ I5 (stat fr5) st5 stop) fun r s6 z => ?_
      obtain ⟨hr, I6⟩ := z
      subst hr
      exact fin I6 qn
    · refine thn (T.item (cxC X x scope cl s3.heap.objs.size s3 (upd H2 s2.heap.objs.size (.lst [])) fp) rfl rfl rfl hc i [] s5 _ H5 _ I5 (stat fr5) st5 go) fun r s6 z => ?_
      obtain ⟨u, hr, h6⟩ := z
      subst hr
      refine thn h6 fun _ s7 z => ?_
      obtain ⟨y, H7, I7, r7, y7, st7, fr7⟩ := z
      have I7' := I7.pinned (stat fr7) (T.obj _ _ st7)
      have back : ∀ {t8 : Option V} {H8 : Hp} {s8 : Shared}, Inv (cxC X x scope cl s3.heap.objs.size s3 (upd H2 s2.heap.objs.size (.lst [])) fp) ([] ++ pinsAt fp s7.heap) (t8 :: σ) H8 s8 →
          Inv (cxC X x scope cl s3.heap.objs.size s3 (upd H2 s2.heap.objs.size (.lst [])) fp) [] (t8 :: σ) H8 s8 ∧ tn (i + 1) s8.heap ∧ ∀ b ∈ fp, H8 b = none := fun {t8 H8 s8} I8 => by
        refine ⟨I8.unpinned, T.keep _ _ _ st7 fun b hb o e => (I8.pin (b, o) (List.mem_append_right _ (List.mem_append_right _ (mem_pinsAt hb e)))).1, fun b hb => ?_⟩
        obtain ⟨o, e, d⟩ := T.obj _ _ st7 b hb
        exact (I8.pin (b, o) (List.mem_append_right _ (List.mem_append_right _ (mem_pinsAt hb e)))).2.1
      refine thn (pg_name (X := cxC X x scope cl s3.heap.objs.size s3 (upd H2 s2.heap.objs.size (.lst [])) fp) (i := 0) (List.nodup_cons.mpr ⟨ok.nd, hN⟩) rfl (Or.inl (lookup_relabel_local ok.tgt)) (.inr (lookup_relabel_local ok.tgt))
        _ s7 _ H7 y u (fun σ8 H8 => σ8 = some y :: σ ∧ H8 = H7) I7' r7 ⟨rfl, rfl⟩) fun _ s8 z => ?_
      obtain ⟨σ8, H8, I8, e8, e8'⟩ := z
      subst e8 e8'
      refine thn (ht s3.heap.objs.size s3 (upd H2 s2.heap.objs.size (.lst [])) fp _ s8 _ _ _ I8 (step y _ y7)) fun b9 s9 z => ?_
      obtain ⟨H9, I9, q9⟩ := z
      cases b9 with
      | false =>
        obtain ⟨m', hm, w9⟩ := (if_neg Bool.false_ne_true).mp q9
        obtain ⟨J9, st9, fr9⟩ := back I9
        exact ⟨m', hm, i + 1, xs, _, H9, J9, st9, fr9, w9⟩
      | true =>
        refine thn (he s3.heap.objs.size s3 (upd H2 s2.heap.objs.size (.lst [])) fp _ s9 _ H9 _ I9 ((if_pos rfl).mp q9)) fun yv sa z => ?_
        obtain ⟨va, Ha, Ia, ra, ea, za, m', hm, wa⟩ := z
        refine thn (mt_append (X := cxC X x scope cl s3.heap.objs.size s3 (upd H2 s2.heap.objs.size (.lst [])) fp) _ sa _ Ha (.ref s2.heap.objs.size) [va] (.ref s2.heap.objs.size) [yv]
          (fun _ Hb => W (i + 1) m' (xs ++ [va]) Hb) Ia rfl (.cons ra .nil) ⟨_, xs, va, rfl, rfl, ea, za, wa⟩) fun _ sb z => ?_
        obtain ⟨_, Hb, Ib, _, wb⟩ := z
        obtain ⟨Jb, stb, frb⟩ := back Ib
        exact ⟨m', hm, i + 1, _, _, Hb, Jb, stb, frb, wb⟩
  subst hs3
  exact codeAny_compStart_list loop (T.self _ 0 _ _ _ st4 loop)
end
end L3

set_option Elab.async false
set_option linter.all false
set_option maxRecDepth 100000
set_option maxHeartbeats 4000000
namespace L3
open PySem PySem.Spec PyProof.Rows L2
set_option maxRecDepth 100000
namespace RF
theorem sub_self : isSubtype (.type "reversed") (.type "reversed") = pure true := PySem.F.sub_reversed_self
theorem slot_init : Slot "reversed" "__init__" "object.__init__" :=
  .of (owner := "object") (n := "__init__") (by rw [typeLookup_type, builtinLookup_eq_fast]; kernel_rfl) (by decide +kernel) (by decide +kernel) (by decide +kernel)
    (by first | exact .inl (by decide +kernel) | exact .inr (by decide +kernel)) (by rw [isSubtype_type]; kernel_rfl)
theorem called : TypeCalled "reversed" "reversed.__new__" "object.__init__" :=
  ⟨by decide +kernel, by decide +kernel, ⟨_, _, PySem.F.mro_reversed⟩, PySem.F.made_reversed, by decide +kernel, by rw [isSubtype_type]; kernel_rfl, slot_init⟩
end RF
section
variable {prog : Program} {w : World} {A : Around} {E : Value → Shared → Prop} {s : Shared}
def IsRevT (h : Heap) (a l : Addr) (i : Int) : Prop := ∃ o, h.get? a = some o ∧ o.cls = .type "reversed" ∧ o.data = .fields #[.ref l, rawInt i]
theorem IsRevT.typeIs {a l : Addr} {i : Int} (x : IsRevT s.heap a l i) : s.TypeIs (.ref a) "reversed" := let ⟨o, ho, hc, _⟩ := x; ⟨o, ho, hc⟩
theorem IsRevT.at {h h' : Heap} {a l : Addr} {i : Int} (x : IsRevT h a l i) (e : ∀ o, h.get? a = some o → h'.get? a = some o) : IsRevT h' a l i := let ⟨o, ho, r⟩ := x; ⟨o, e _ ho, r⟩
end
/-! ### what reversed(t) walks -/
def Itv (K : PySem.W.Frag) (a : Addr) (n : Nat) : It :=
  ⟨fun i H => i < n ∧ ∃ xs, SqT K H a xs ∧ xs.length = n, fun i H x H' => H' = H ∧ ∀ xs, SqT K H a xs → xs[n - 1 - i]? = some x, fun i H => n ≤ i ∧ ∃ xs, SqT K H a xs ∧ xs.length = n⟩
section
variable {X : Cx} {tg : Expr}
def iRevT (K : PySem.W.Frag) (ta : TA) : TI := fun σ H R => ta σ H fun vs H1 => ∃ a xs, vs = [.ref a] ∧ SqT K H1 a xs ∧ R (Itv K a xs.length) H1
/-! ### range(a, b, -1) -/
end
def Itd (lo : Int) (n : Nat) : It := ⟨fun i _ => i < n, fun i H x H' => H' = H ∧ x = .int (lo - i), fun i _ => n ≤ i⟩
section
variable {X : Cx} {tg : Expr}
def iRng3 (ta : TA) : TI := fun σ H R => ta σ H fun vs H1 => ∃ i j : Int, vs = [.int i, .int j, .int (-1)] ∧ (-(2 ^ 62) ≤ i ∧ i < 2 ^ 62 ∧ -(2 ^ 62) ≤ j ∧ j < 2 ^ 62) ∧ R (Itd i (i - j).toNat) H1
end
/-! ### x[::-1] -/
section
variable {prog : Program} {w : World} {A : Around} {E : Value → Shared → Prop} {s : Shared}
end
section
variable {X : Cx} {e st : Expr} {te : TE} {p2 pos : Pos}
/-- x[::-1] by values -/
def RvR (X : Cx) (r : V → Hp → VK → Prop) : Prop :=
  ∀ (pins : List (Addr × Obj)) (s : Shared) (σ : L2.St) (H : Hp) (x : V) (v : Value) (sl : Addr) (t : Tok) (Q : VK), Inv X pins σ H s → RelV x v → s.heap.IsSliceOf sl .none .none (.int (-1) t) → r x H Q →
    ∃ T id, typeLookup (.type T) "__getitem__" = pure (some (.builtin id)) ∧ s.TypeIs v T ∧ wpAny (model X.prog X.w) X.A (getItem v (.ref sl)) (EP X pins σ Q) X.xe s
def tRv (r : V → Hp → VK → Prop) (te : TE) : TE := fun σ H Q => te σ H fun x H1 => r x H1 Q
end
end L3

set_option Elab.async false
set_option linter.all false
set_option maxRecDepth 100000
set_option maxHeartbeats 4000000
/-! OWN RULES: name = a comprehension. -/
namespace L3
open PySem PySem.Spec PyProof.Rows L2
section
variable {X : Cx} {x : Str} {scope : Scope} {cl : List (Str × Addr)} {wi : TI} {tt : TT} {te : TE} {elt iter : Expr} {ifs : List Expr} {px pos : Pos}
theorem ps_lcA {y : Str} {py spos : Pos} {iy : Nat} (ok : CompOk X x scope cl) (hN : X.N.Nodup) (hc : X.calm = true) (hi : PI X (.Name x px) iter wi) (ht : ∀ C s0 H0 fp, PIfs (cxC X x scope cl C s0 H0 fp) ifs tt) (he : ∀ C s0 H0 fp, PE (cxC X x scope cl C s0 H0 fp) elt te)
    (hiy : X.N[iy]? = some y) (hy : Loc X.env.scope y) (hfy : X.fn y = true ∨ X.env.scope.names.lookup y = some .local) (hsw : swapsWith (.ListComp elt [⟨.Name x px, iter, ifs, 0⟩] scope pos) (some (.Name y py)) spos.line X.env = pure true)
    (hf : ∀ v, foldedSetIterable iter X.env v = pure v := by intro _; rfl) : PS X (.Assign [.Name y py] (.ListComp elt [⟨.Name x px, iter, ifs, 0⟩] scope pos) spos) (tAsg (tLC wi tt te) (gName iy)) := by
  intro pins s σ H D I h
  rw [exec_Assign_Name_used _ _ _ _ hsw]
  refine wpAny_bind (wpAny_standAt (wpAny_bind ?_))
  show wpAny _ X.A (do let _ ← comprehension (.ListComp elt [⟨.Name x px, iter, ifs, 0⟩] scope pos) scope X.env _ (newList []) false (eval iter X.env) (some (assign (.Name y py) X.env))) _ _ s
  have h' : tLC wi tt te σ H (fun x H1 => D.nx (σ.set iy (some x)) H1) := h
  generalize hQ : (fun x H1 => D.nx (σ.set iy (some x)) H1) = Q at h'
  refine wpAny_bind (wpAny_mono (wpAny_comprehension_free (use := some (assign (.Name y py) X.env)) (Q := fun _ s' => SP X pins D .next s') rfl hf ok.clos ok.kind ok.names (thn (hi pins s σ H _ I h') fun v s1 h1 => thn h1 fun itv s2 h2 => ?_)) (fun _ s' hq => wpAny_pure (wpAny_pure hq)) fun _ _ e => e)
  obtain ⟨it, fp, tn, J, H2, e, I2, T, st2, f2, W⟩ := h2
  subst e
  obtain ⟨W, ⟨m0, w0⟩, turn⟩ := W s2.heap.objs.size (I2.hok.fresh (Nat.le_refl _))
  have I3 : Inv X pins σ (upd H2 s2.heap.objs.size (.lst [])) { s2 with heap := s2.heap.push { cls := .type "list", data := .seq ([] : List Value).toArray } } := I2.lnew (t' := s2.toks) (its := []) .nil (Nat.zero_le _)
  refine wpAny_newObj_type ?_
  generalize hs3 : ({ s2 with heap := s2.heap.push { cls := .type "list", data := .seq ([] : List Value).toArray } } : Shared) = s3 at I3
  have hh3 : s3.heap = s2.heap.push { cls := .type "list", data := .seq ([] : List Value).toArray } := by rw [← hs3]
  refine wpAny_newFunctionEnv ok.nocell ((fun y hy => nomatch hy)) (fun h4 ns4 sb4 => ?_) ok.kind
  -- the iterator's objects
  have fpo : ∀ b ∈ fp, ∃ o, s2.heap.get? b = some o := fun b hb => let ⟨o, e, _⟩ := T.obj _ _ st2 b hb; ⟨o, e⟩
  have old : ∀ b o, s3.heap.get? b = some o → h4.get? b = some o := fun b o e => sb4.extBut b o (Nat.ne_of_lt (Heap.lt_size e)) (Heap.get?_push_of_some _ e)
  have fplt : ∀ b ∈ fp, b < s3.heap.objs.size := fun b hb => by
    obtain ⟨o, e⟩ := fpo b hb
    rw [hh3, Heap.size_push]
    exact Nat.lt_succ_of_lt (Heap.lt_size e)
  have fp3 : ∀ b ∈ fp, FpOk X pins (upd H2 s2.heap.objs.size (.lst [])) b := fun b hb => by
    obtain ⟨o, e⟩ := fpo b hb
    refine ⟨?_, (f2 b hb).2⟩
    rw [upd_ne (Nat.ne_of_lt (Heap.lt_size e))]
    exact (f2 b hb).1
  have Cnew : ∀ b o, s3.heap.get? b = some o → b ≠ s3.heap.objs.size := fun b o e => Nat.ne_of_lt (Heap.lt_size e)
  have celln : ∀ y c, X.env.cells.lookup y = some c → c ≠ s3.heap.objs.size := fun y c e => by
    obtain ⟨v, o, ho, _⟩ := I3.cell y c e
    exact Cnew c o ho
  have okC : (cxC X x scope cl s3.heap.objs.size s3 (upd H2 s2.heap.objs.size (.lst [])) fp).Ok := by
    refine ⟨I3.ok.mod, ok.kind, I3.ok.glob, I3.ok.blt, Nat.le_refl _, fun y z c e1 e2 => I3.ok.inj y z c (ok.sub y c e1) (ok.sub z c e2), fun y hy => ok.has y hy, (fun y c e => nomatch e), I3.ok.hd, I3.ok.frames, .inl rfl, fun b hb => ?_, I3.bs, Nat.le_trans I3.ok.bsz I3.sz, fun b o e hb => ?_, fun b hb hf => ?_, I3.stack, I3.stkFree⟩
    · exact ⟨Nat.ne_of_lt (fplt b hb), fun y c e => (fp3 b hb).2.2.2.2.1 y c (ok.sub y c e)⟩
    · rcases (fp3 b hb).2.2.2.1 with z | z
      · exact I3.ok.noex b o e z
      · exact absurd (Nat.lt_of_lt_of_le (Heap.lt_size e) (Nat.le_trans I3.ok.bsz z)) (Nat.lt_irrefl _)
    · rcases List.mem_cons.mp (I3.stkSub b hf) with z | z
      · exact (fp3 b hb).2.1 z
      · exact (fp3 b hb).2.2.1 z
  obtain ⟨m3, hn3, hl3⟩ := I3.loc
  have I4 : Inv (cxC X x scope cl s3.heap.objs.size s3 (upd H2 s2.heap.objs.size (.lst [])) fp) [] (none :: σ) (upd H2 s2.heap.objs.size (.lst [])) { s3 with heap := h4, toks := s3.toks + 0 } := by
    refine ⟨okC, rfl, I3.bare, Un.kept old, ⟨_, ns4, fun i y v e1 e2 e3 => ?_⟩, fun y c e => ?_, I3.hok.fresh (Nat.le_refl _), fun y c e => I3.freeC y c (ok.sub y c e), (fun p hp => nomatch hp), I3.hok.kept old, ?_⟩
    · cases i with
      | zero => exact nomatch e2
      | succ i =>
        have e1' : X.N[i]? = some y := by simpa using e1
        have e2' : σ[i]? = some (some v) := by simpa using e2
        obtain ⟨kc, ko⟩ := ok.cellv y (List.mem_of_getElem? e1') e3
        have vis : Vis X.env.scope y := ko.elim (fun z => .inr (.inl z)) fun z => .inr (.inr z)
        obtain ⟨u, r, l⟩ := hl3 i y v e1' e2' vis
        refine ⟨u, r, .inr ⟨kc, ?_⟩⟩
        obtain ⟨c, ec⟩ := ok.has y kc
        rcases l with ⟨k, _⟩ | ⟨_, c', ec', z⟩
        · have k' : X.env.scope.names.lookup y = some .local := k
          rcases ko with ko | ko
          · rw [k'] at ko; cases ko
          · rw [k'] at ko; cases ko
        · have e4 := ok.sub y c ec
          rw [ec'] at e4; cases e4
          obtain ⟨o, e, d⟩ := z
          exact ⟨c, ec, o, old _ o e, d⟩
    · obtain ⟨v, o, ho, hd⟩ := I3.cell y c (ok.sub y c e)
      exact ⟨v, o, old c o ho, hd⟩
    · show (none :: σ).length = (x :: X.N).length
      rw [List.length_cons, List.length_cons, I3.len]
  have st4 : tn 0 h4 := T.keep _ _ _ st2 fun b hb o e => old b o (by rw [hh3]; exact Heap.get?_push_of_some _ e)
  have fin : ∀ {σ' : L2.St} {H' : Hp} {s' : Shared}, Inv (cxC X x scope cl s3.heap.objs.size s3 (upd H2 s2.heap.objs.size (.lst [])) fp) [] σ' H' s' → Q (.ref s2.heap.objs.size) H' →
      wpAny (model X.prog X.w) X.A (assign (.Name y py) X.env (.ref s2.heap.objs.size)) (fun _ s'' => ∃ m, s''.heap.Ns s3.heap.objs.size m ∧ ∀ h', Heap.SameBut s3.heap.objs.size s''.heap h' → SP X pins D .next { s'' with heap := h' }) X.xe s' := fun {σ' H' s'} J q => by
    obtain ⟨m, hn, _⟩ := J.loc
    have hC0 : H' s3.heap.objs.size = none := J.free
    have IO : ∀ h', Heap.SameBut s3.heap.objs.size s'.heap h' → Inv X pins σ H' { s' with heap := h' } := fun h' sb => by
      have hC : H' s3.heap.objs.size = none := J.free
      have un : Un (frs X.stack) fp (upd H2 s2.heap.objs.size (.lst [])) H' s3.heap h' := by
        refine ⟨fun b o e z hb hx => ?_, fun b o e z hb hx => ?_, J.base.free, fun b o e hx => ?_, J.base.tups, J.base.frzs, J.base.tbls⟩
        · exact (sb.2 b (Cnew b o e)).trans (J.base.keep b o e z hb hx)
        · obtain ⟨sl, e1⟩ := J.base.slot b o e z hb hx
          exact ⟨sl, (sb.2 b (Cnew b o e)).trans e1⟩
        · obtain ⟨o', e1⟩ := J.base.there b o e hx
          exact ⟨o', (sb.2 b (Cnew b o e)).trans e1⟩
      have hok : HOk X.prog X.w H' h' := fun b ob e => by
        refine (J.hok b ob e).stay (fun c w' hc q => (sb.2 c ?_).trans q) (fun _ q => q) fun _ _ q => q
        intro z
        subst z
        rcases hc with hc | hc
        · rw [← hc, hC] at e; cases e
        · rw [hC] at hc; cases hc
      refine I3.call' (s' := { s' with heap := h' }) (ch := fp) J.os un hok J.bare fun b hb => ?_
      obtain ⟨_, h2, _, h4, h5, h6⟩ := fp3 b hb
      exact ⟨h4, h2, h5, h6⟩

    have IS : Inv X pins σ H' s' := IO s'.heap ⟨rfl, fun _ _ => rfl⟩
    have fC := I3.fpOk (Nat.le_refl _) hC0
    refine wpAny_assign_Name (store_ok2 IS hN hiy hy (v := .ref s2.heap.objs.size) rfl (fun s'' I'' sx => ?_) hfy)
    obtain ⟨a, sb, ha⟩ := sx
    have hCa : s3.heap.objs.size ≠ a := by
      rcases ha with ha | ha
      · rw [ha]; exact fC.2.1
      · exact Ne.symm (celln _ _ ha)
    refine ⟨m, hn.sameBut sb hCa, fun h' sb' => ⟨_, H', I''.turned (t' := s''.toks) (it := s3.heap.objs.size) (fun b o hb e => (sb'.2 b hb).trans e) hC0 fC.2.1 fC.2.2.2.1 fC.2.2.2.2.1 fC.2.2.2.2.2, ?_⟩⟩
    subst hQ
    exact q
  have stat : ∀ {H' : Hp}, (∀ b ∈ fp, H' b = none) → ∀ b ∈ fp, FpOk (cxC X x scope cl s3.heap.objs.size s3 (upd H2 s2.heap.objs.size (.lst [])) fp) [] H' b := fun hn b hb =>
    ⟨hn b hb, (okC.exf b hb).1, okC.exfs b hb, .inl hb, (okC.exf b hb).2, (fun p hp => nomatch hp)⟩
  have loop : codeAny (model X.prog X.w) X.A (.compLoop (.ListComp elt [⟨.Name x px, iter, ifs, 0⟩] scope pos) 0 (.ref it) (.ref s2.heap.objs.size) (compEnvC scope cl s3.heap.objs.size X.env))
      (compPost (model X.prog X.w) X.A X.xe (some (assign (.Name y py) X.env)) (fun _ s' => SP X pins D .next s') (.ref s2.heap.objs.size) s3.heap.objs.size) { s3 with heap := h4, toks := s3.toks + 0 } := by
    refine comp_loop (fun n s' => ∃ i xs t H', Inv (cxC X x scope cl s3.heap.objs.size s3 (upd H2 s2.heap.objs.size (.lst [])) fp) [] (t :: σ) H' s' ∧ tn i s'.heap ∧ (∀ b ∈ fp, H' b = none) ∧ W i n xs H') ?_ m0 ⟨0, [], none, _, I4, st4, fun b hb => (fp3 b hb).1, w0⟩
    rintro n s5 ⟨i, xs, t, H5, I5, st5, fr5, w5⟩
    obtain ⟨hacc, alt⟩ := turn i n xs H5 w5
    rcases alt with ⟨stop, qn⟩ | ⟨go, step⟩
    · refine thn (T.done (cxC X x scope cl s3.heap.objs.size s3 (upd H2 s2.heap.objs.size (.lst [])) fp) rfl rfl rfl hc i [] s5 _ H5 _ I5 (stat fr5) st5 stop) fun r s6 z => ?_
      obtain ⟨hr, I6⟩ := z
      subst hr
      exact fin I6 qn
    · refine thn (T.item (cxC X x scope cl s3.heap.objs.size s3 (upd H2 s2.heap.objs.size (.lst [])) fp) rfl rfl rfl hc i [] s5 _ H5 _ I5 (stat fr5) st5 go) fun r s6 z => ?_
      obtain ⟨u, hr, h6⟩ := z
      subst hr
      refine thn h6 fun _ s7 z => ?_
      obtain ⟨y, H7, I7, r7, y7, st7, fr7⟩ := z
      have I7' := I7.pinned (stat fr7) (T.obj _ _ st7)
      have back : ∀ {t8 : Option V} {H8 : Hp} {s8 : Shared}, Inv (cxC X x scope cl s3.heap.objs.size s3 (upd H2 s2.heap.objs.size (.lst [])) fp) ([] ++ pinsAt fp s7.heap) (t8 :: σ) H8 s8 →
          Inv (cxC X x scope cl s3.heap.objs.size s3 (upd H2 s2.heap.objs.size (.lst [])) fp) [] (t8 :: σ) H8 s8 ∧ tn (i + 1) s8.heap ∧ ∀ b ∈ fp, H8 b = none := fun {t8 H8 s8} I8 => by
        refine ⟨I8.unpinned, T.keep _ _ _ st7 fun b hb o e => (I8.pin (b, o) (List.mem_append_right _ (List.mem_append_right _ (mem_pinsAt hb e)))).1, fun b hb => ?_⟩
        obtain ⟨o, e, d⟩ := T.obj _ _ st7 b hb
        exact (I8.pin (b, o) (List.mem_append_right _ (List.mem_append_right _ (mem_pinsAt hb e)))).2.1
      refine thn (pg_name (X := cxC X x scope cl s3.heap.objs.size s3 (upd H2 s2.heap.objs.size (.lst [])) fp) (i := 0) (List.nodup_cons.mpr ⟨ok.nd, hN⟩) rfl (Or.inl (lookup_relabel_local ok.tgt)) (.inr (lookup_relabel_local ok.tgt))
        _ s7 _ H7 y u (fun σ8 H8 => σ8 = some y :: σ ∧ H8 = H7) I7' r7 ⟨rfl, rfl⟩) fun _ s8 z => ?_
      obtain ⟨σ8, H8, I8, e8, e8'⟩ := z
      subst e8 e8'
      refine thn (ht s3.heap.objs.size s3 (upd H2 s2.heap.objs.size (.lst [])) fp _ s8 _ _ _ I8 (step y _ y7)) fun b9 s9 z => ?_
      obtain ⟨H9, I9, q9⟩ := z
      cases b9 with
      | false =>
        obtain ⟨m', hm, w9⟩ := (if_neg Bool.false_ne_true).mp q9
        obtain ⟨J9, st9, fr9⟩ := back I9
        exact ⟨m', hm, i + 1, xs, _, H9, J9, st9, fr9, w9⟩
      | true =>
        refine thn (he s3.heap.objs.size s3 (upd H2 s2.heap.objs.size (.lst [])) fp _ s9 _ H9 _ I9 ((if_pos rfl).mp q9)) fun yv sa z => ?_
        obtain ⟨va, Ha, Ia, ra, ea, za, m', hm, wa⟩ := z
        refine thn (mt_append (X := cxC X x scope cl s3.heap.objs.size s3 (upd H2 s2.heap.objs.size (.lst [])) fp) _ sa _ Ha (.ref s2.heap.objs.size) [va] (.ref s2.heap.objs.size) [yv]
          (fun _ Hb => W (i + 1) m' (xs ++ [va]) Hb) Ia rfl (.cons ra .nil) ⟨_, xs, va, rfl, rfl, ea, za, wa⟩) fun _ sb z => ?_
        obtain ⟨_, Hb, Ib, _, wb⟩ := z
        obtain ⟨Jb, stb, frb⟩ := back Ib
        exact ⟨m', hm, i + 1, _, _, Hb, Jb, stb, frb, wb⟩
  subst hs3
  exact codeAny_compStart_list loop (T.self _ 0 _ _ _ st4 loop)
end
end L3

set_option Elab.async false
set_option linter.all false
set_option maxRecDepth 100000
set_option maxHeartbeats 4000000
namespace L3
open PySem PySem.Spec PyProof.Rows L2
set_option maxRecDepth 100000
namespace RF
end RF
section
variable {prog : Program} {w : World} {A : Around} {E : Value → Shared → Prop} {s : Shared}
variable {I : Addr} {fp wr : List Addr} {G : Array GenState → Array GenState → Prop} {n : Nat} {P : Nat → Value → Prop} {St : Nat → Shared → Prop} {R : Result → Shared → Prop}
end
section
variable {X : Cx}
def tLR (K : PySem.W.Frag) (t : TE) : TE := fun σ H Q => t σ H fun v H1 => ∃ a xs, v = .ref a ∧ SqL K H1 a xs ∧ ∀ l, H1 l = none → Q (.ref l) (upd H1 l (.lst xs.reverse))
end
end L3

set_option Elab.async false
set_option linter.all false
set_option maxRecDepth 100000
set_option maxHeartbeats 4000000
namespace L3
open PySem PySem.Spec PyProof.Rows L2
abbrev cxC2 (X : Cx) (x x2 : Str) (scope : Scope) (cl : List (Str × Addr)) (C : Addr) (s0 : Shared) (H0 : Hp) (fp : List Addr) : Cx :=
  { X with N := x :: x2 :: X.N, s₀ := s0, H₀ := H0, env := compEnvC scope cl C X.env, outer := X.stack, ex := fp, fn := fun _ => false, pn := [], xe := fun _ _ => False }
structure CompOk2 (X : Cx) (x x2 : Str) (scope : Scope) (cl : List (Str × Addr)) : Prop where
  base : CompOk X x scope cl
  tg2 : scope.names.lookup x2 = some .local
  nd2 : x2 ∉ X.N
  ne : x ≠ x2
theorem CompOk2.nodup {X : Cx} {x x2 : Str} {scope : Scope} {cl : List (Str × Addr)} (ok : CompOk2 X x x2 scope cl) (hN : X.N.Nodup) : (x :: x2 :: X.N).Nodup :=
  List.nodup_cons.mpr ⟨fun h => (List.mem_cons.mp h).elim ok.ne ok.base.nd, List.nodup_cons.mpr ⟨ok.nd2, hN⟩⟩
def tLC2 (K : PySem.W.Frag) (wi : TI) (tt : TT) (te : TE) : TE := fun σ H Q => wi σ H fun J H1 => ∀ acc, H1 acc = none → ∃ W : Nat → Nat → List V → Hp → Prop, (∃ m, W 0 m [] (upd H1 acc (.lst []))) ∧
  ∀ i m xs H, W i m xs H → H acc = some (.lst xs) ∧ ((J.stop i H ∧ Q (.ref acc) H) ∨ (J.go i H ∧ ∀ y H', J.yld i H y H' → ∃ p va vb, y = .ref p ∧ SqT K H' p [va, vb] ∧
    tt (some va :: some vb :: σ) H' fun ok H2 => if ok = true then te (some va :: some vb :: σ) H2 fun v H3 => H3 acc = some (.lst xs) ∧ xs.length < sizeLine ∧ ∃ m', m' < m ∧ W (i + 1) m' (xs ++ [v]) (upd H3 acc (.lst (xs ++ [v]))) else ∃ m', m' < m ∧ W (i + 1) m' xs H2))
section
variable {X : Cx} {x x2 : Str} {kk : Nat} {py pt : Pos} {scope : Scope} {cl : List (Str × Addr)} {wi : TI} {tt : TT} {te : TE} {elt iter : Expr} {ifs : List Expr} {px pos : Pos}
end
end L3

set_option Elab.async false
set_option linter.all false
set_option maxRecDepth 100000
set_option maxHeartbeats 4000000
namespace HT
open PySem PyProof.Rows
section
variable {prog : Program} {w : World} {A : Around} {E : Value → Shared → Prop} {s : Shared}
end
end HT
namespace L3
open PySem PySem.Spec PyProof.Rows L2
variable {X : Cx}
def rSlTW (K : PySem.W.Frag) : V → Option Int → Option Int → Hp → VK → Prop := fun x lo hi H Q => ∃ a xs, x = .ref a ∧ SqT K H a xs ∧
  ((HT.sIx xs.length 0 lo = 0 ∧ HT.sIx xs.length xs.length hi = xs.length) → Q (.ref a) H) ∧
  (¬ (HT.sIx xs.length 0 lo = 0 ∧ HT.sIx xs.length xs.length hi = xs.length) → ∀ p, H p = none → Q (.ref p) (upd H p (.tup (cutV xs lo hi))))
end L3

set_option Elab.async false
set_option linter.all false
set_option maxRecDepth 100000
set_option maxHeartbeats 4000000
/-! list + list, whoever holds them; in of data -/
namespace L3
open PySem PySem.Spec PyProof.Rows L2 PySem.AutoSeq1
section
variable {X : Cx}
def rCatS (K : PySem.W.Frag) : R2 := fun x y H Q => ∃ l b xs zs, x = .ref l ∧ y = .ref b ∧ SqL K H l xs ∧ SqL K H b zs ∧ xs.length + zs.length ≤ sizeLine ∧ ∀ p, H p = none → Q (.ref p) (upd H p (.lst (xs ++ zs)))
/-- x in a list or a tuple, by the data -/
def rInD (K : PySem.W.Frag) (neg : Bool) : R2 := fun x y H Q => ∃ d ds, DV K H x d ∧ (DV K H y (.list ds) ∨ DV K H y (.tuple ds)) ∧ okD d = true ∧ okD (.list ds) = true ∧ Q (.bl (if neg then !(ds.any fun y => PyData.eqv y d) else ds.any fun y => PyData.eqv y d)) H
theorem okD_all {ds : List PyData} (h : okD (.list ds) = true) : PyData.canLayAll0 ds = true ∧ PyData.depthAll ds ≤ 64 := by
  have h1 := SeqAt.canLay_of_shaped h
  have h2 := SeqAt.depth_of_shaped h
  simp only [PyData.canLay0] at h1
  simp only [PyData.depth] at h2
  exact ⟨h1, by omega⟩
theorem op_inD (hu : X.A.units + 66 < cLine) : OpR X (compareOp .In) (rInD X.K false) := by
  intro pins s σ H x y v u Q I rx ry h
  obtain ⟨d, ds, h1, h2, o1, o2, q⟩ := h
  obtain ⟨a1, a2⟩ := okD_all o2
  obtain ⟨bs, r1⟩ := DV.reads I h1 rx
  have hm : min (PyData.depthAll ds) d.depth ≤ 64 := Nat.le_trans (Nat.min_le_left _ _) a2
  rcases h2 with h2 | h2
  · obtain ⟨as, r2⟩ := DV.reads I h2 ry
    exact SeqAt.in_list_reads r2 r1 a1 (SeqAt.canLay_of_shaped o1) (by omega) ⟨.bl _, H, I, rfl, q⟩
  · obtain ⟨as, r2⟩ := DV.reads I h2 ry
    exact SeqAt.in_tuple_reads r2 r1 a1 (SeqAt.canLay_of_shaped o1) (by omega) ⟨.bl _, H, I, rfl, q⟩
end
end L3

set_option Elab.async false
set_option linter.all false
set_option maxRecDepth 100000
set_option maxHeartbeats 4000000
/-! a comprehension whose name is a name of the def -/
namespace L3
open PySem PySem.Spec PyProof.Rows L2
/-- the same where the comprehension's name is a name of the def, too: the def's names as the block sees them -/
abbrev cxN (X : Cx) (N' : List Str) (x : Str) (scope : Scope) (cl : List (Str × Addr)) (C : Addr) (s0 : Shared) (H0 : Hp) (fp : List Addr) : Cx :=
  { X with N := x :: N', s₀ := s0, H₀ := H0, env := compEnvC scope cl C X.env, outer := X.stack, ex := fp, fn := fun _ => false, pn := [], xe := fun _ _ => False }
structure CompOkN (X : Cx) (N' : List Str) (x : Str) (scope : Scope) (cl : List (Str × Addr)) : Prop where
  clos : closureFor scope X.env = pure cl
  sub : ∀ y c, cl.lookup y = some c → X.env.cells.lookup y = some c
  has : ∀ y, (relabel scope X.env).names.lookup y = some .cell ∨ (relabel scope X.env).names.lookup y = some .free → ∃ c, cl.lookup y = some c
  nocell : ∀ y ∈ scope.names, y.2 ≠ .cell
  kind : scope.kind = .function
  names : ∀ y ∈ scope.names, y.2 = .local → scope.names.lookup y.1 = some .local
  tgt : scope.names.lookup x = some .local
  cellv : ∀ y ∈ N', Vis (relabel scope X.env) y → ((relabel scope X.env).names.lookup y = some .cell ∨ (relabel scope X.env).names.lookup y = some .free) ∧ (X.env.scope.names.lookup y = some .cell ∨ X.env.scope.names.lookup y = some .free)
  nd : (x :: N').Nodup
  len : N'.length = X.N.length
  at_ : ∀ (i : Nat) (y : Str), N'[i]? = some y → Vis (relabel scope X.env) y → X.N[i]? = some y
section
variable {X : Cx} {N' : List Str} {x : Str} {scope : Scope} {cl : List (Str × Addr)} {wi : TI} {tt : TT} {te : TE} {elt iter : Expr} {ifs : List Expr} {px pos : Pos}
end
end L3

set_option Elab.async false
set_option linter.all false
set_option maxRecDepth 100000
set_option maxHeartbeats 4000000
/-! xs.count(v), xs.index(v) of flat values -/
namespace L3
open PySem PySem.Spec PyProof.Rows L2
section
variable {X : Cx}
def rCount (K : PySem.W.Frag) : V → List V → Hp → VK → Prop := fun x vs H Q => ∃ p xs v, x = .ref p ∧ vs = [v] ∧ SqL K H p xs ∧ flatV v = true ∧ xs.all flatV = true ∧ Q (.int ((xs.countP fun y => eqV y v : Nat) : Int)) H
def rIndex (K : PySem.W.Frag) : V → List V → Hp → VK → Prop := fun x vs H Q => ∃ (p : Addr) (xs : List V) (v : V) (j : Nat), x = .ref p ∧ vs = [v] ∧ SqL K H p xs ∧ flatV v = true ∧ xs.all flatV = true ∧ j < 1000000 ∧ (∃ y, xs[j]? = some y ∧ eqV y v = true) ∧ (∀ (m : Nat) (y : V), m < j → xs[m]? = some y → eqV y v = false) ∧ Q (.int (j : Int)) H
end
end L3

set_option Elab.async false
set_option linter.all false
set_option maxRecDepth 100000
set_option maxHeartbeats 4000000
/-! name = a comprehension whose name is a name of the def -/
namespace L3
open PySem PySem.Spec PyProof.Rows L2
section
variable {X : Cx} {N' : List Str} {x : Str} {scope : Scope} {cl : List (Str × Addr)} {wi : TI} {tt : TT} {te : TE} {elt iter : Expr} {ifs : List Expr} {px pos : Pos}
end
end L3

set_option Elab.async false
set_option linter.all false
set_option maxRecDepth 100000
set_option maxHeartbeats 4000000
/-! all(l), any(l) of a list of bools -/
namespace L3
open PySem PySem.Spec PyProof.Rows L2
section
variable {X : Cx}
theorem vals_bl : ∀ {bs : List Bool} {us : List Value}, Vals (bs.map V.bl) us → ∀ (i : Nat) (v : Value), us[i]? = some v → ∃ b, bs[i]? = some b ∧ v = .bool b
  | [], _, h => fun i v e => by cases h; simp at e
  | b :: bs, _, h => fun i v e => by
    cases h with
    | cons r t =>
      cases i with
      | zero => simp at e; subst e; cases r; exact ⟨b, rfl, rfl⟩
      | succ i => simpa using vals_bl t i v (by simpa using e)
theorem truth_bl {bs : List Bool} {its : List Value} (d : Bool) (rv : Vals (bs.map V.bl) its) : TruthOf X.prog X.w X.A.in1 (fun i v => its.toArray[i]? = some v) (fun i => (bs[i]?).getD d) := by
  intro j u t R F hu hR
  obtain ⟨b, eb, rfl⟩ := vals_bl rv j u (by simpa using hu)
  dsimp only at hR
  rw [eb] at hR
  exact wpAny_truthy_bool hR
theorem call_all_bl (hc : X.calm = true) : CallR X (.builtin "all") (fun xs H Q => ∃ (p : Addr) (bs : List Bool), xs = [.ref p] ∧ SqL X.K H p (bs.map V.bl) ∧ Q (.bl (bs.all id)) H) := by
  rintro pins s σ H xs us Q I r ⟨p, bs, rfl, hq, q⟩
  obtain ⟨u, rfl, rx⟩ := vals1 r
  cases rx
  obtain ⟨its, rv, pl, _⟩ := I.list hq
  have low : p < s.heap.objs.size := let ⟨_, e, _⟩ := pl.isList; Heap.lt_size e
  have ends : ((List.range its.toArray.size).all fun i => (bs[i]?).getD true) = bs.all id := by
    rw [List.size_toArray, ← rv.length, List.length_map]; exact LSm.range_all bs
  exact call_all_walk (wpAny_pyIter_list pl.isList ⟨_, _, _, _, _, _, _, rfl, Walks.list (A := X.A.in1) (I.ok.hd hc) s.heap.objs.size p (Nat.ne_of_lt low) its.toArray, ⟨⟨_, Heap.get?_push_size _ rfl, rfl, rfl⟩, pl.isList.push _⟩, truth_bl true rv,
    fun _ _ hk => by rw [ends]; exact ⟨.bl _, H, I.kept (LSm.kept_iter hk), rfl, q⟩⟩)
end
end L3

set_option Elab.async false
set_option linter.all false
set_option maxRecDepth 100000
set_option maxHeartbeats 4000000
/-! // of any size -/
namespace L3
open PySem PySem.Spec PyProof.Rows L2
structure Py (P : Program) (A : Around) (base : Heap) : Prop where
  seer : base.NoSeer
  tree : P.given.tree = none
  dep : A.depth + Builtin.pylongFrames < recursionLimit
  frm : ∀ st, A.frames = some st → ∃ env l, st = env :: l ∧ env.scope.isGenerator = false ∧ env.scope.isCoroutine = false ∧ env.builtins = builtinsNs ∧ env.globals = mainGlobals
end L3
namespace L2
open PySem PySem.Spec PyProof.Rows
end L2
namespace L3
open PySem PySem.Spec PyProof.Rows L2
end L3

set_option Elab.async false
set_option linter.all false
set_option maxRecDepth 100000
set_option maxHeartbeats 4000000
/-! zip(l, m) in a loop -/
namespace L2
open PySem PySem.Spec PyProof.Rows
def Itz (K : PySem.W.Frag) (a b : Addr) : It :=
  ⟨fun i H => ∃ xs ys x y, SqL K H a xs ∧ SqL K H b ys ∧ xs[i]? = some x ∧ ys[i]? = some y,
   fun i H v H' => ∃ x y T, v = .ref T ∧ H T = none ∧ H' = upd H T (.tup [x, y]) ∧ (∀ xs, SqL K H a xs → xs[i]? = some x) ∧ ∀ ys, SqL K H b ys → ys[i]? = some y,
   fun i H => ∃ xs ys, SqL K H a xs ∧ SqL K H b ys ∧ (xs.length ≤ i ∨ ys.length ≤ i)⟩
def iZip (K : PySem.W.Frag) (ta : TA) : TI := fun σ H R => ta σ H fun xs H1 => ∃ a b, xs = [.ref a, .ref b] ∧ (∃ us, SqL K H1 a us) ∧ (∃ vs, SqL K H1 b vs) ∧ R (Itz K a b) H1
end L2

set_option Elab.async false
set_option linter.all false
set_option maxRecDepth 100000
set_option maxHeartbeats 4000000
/-! texts: text * 0 or 1, sep.join(list of texts) -/
namespace L3
open PySem PySem.Spec PyProof.Rows L2
section
variable {X : Cx}
end
end L3

set_option Elab.async false
set_option linter.all false
set_option maxRecDepth 100000
set_option maxHeartbeats 4000000
/-! texts: startswith, a slice, partition, int, one sign after another -/
namespace L3
open PySem PySem.Spec PyProof.Rows L2
section
variable {X : Cx}
theorem mt_starts : MtR X "str.startswith" (fun x vs H Q => ∃ a b, x = .str a ∧ vs = [.str b] ∧ Q (.bl (decide (0 + b.length ≤ a.length) && Builtin.Str.subAt a b 0)) H) := by
  intro pins s σ H x vs v us Q I rx rv h
  obtain ⟨a, b, rfl, rfl, q⟩ := h
  obtain ⟨t, rfl⟩ := rx
  obtain ⟨u, rfl, t', rfl⟩ := rv.one
  exact call_meets PySem.F.slot_str_startswith (typeIs_str s a t) PySem.F.entry_str_startswith (PySem.F.args_str_startswith_2 _ _) (gives_str_startswith a b t t').meets ⟨.bl _, H, I, rfl, q⟩
theorem sl_str : SlR X (fun x lo hi H Q => ∃ a i, x = .str a ∧ lo = some i ∧ hi = none ∧ (Txt.slice a (some i) none).length ≤ sizeLine ∧ Q (.str (Txt.slice a (some i) none)) H) := by
  intro pins s σ H x v vl vu lo hi sl Q I rx hs pl pu h
  obtain ⟨a, i, rfl, rfl, rfl, hz, q⟩ := h
  obtain ⟨t, rfl⟩ := rx
  cases pl with
  | int i ti =>
    cases pu
    refine ⟨"str", _, slot_str_getitem.lookup, typeIs_str s a t, ?_⟩
    refine wpAny_getItem_str_slice (l := some (i, ti)) (u := none) (st := none) hs rfl ?_
    have e1 : sliceMade a t (some (i, ti)) none none = if ((1 : Int) == 1 && (Builtin.Str.strSliceIndices (some i) none 1 a.length).length == a.length) = true then Made.val (Value.str a t) else Made.str { cps := (List.filterMap (fun x_1 => a.cps[x_1]?) (Builtin.Str.strSliceIndices (some i) none 1 a.length)).toArray } := rfl
    have e2 : Txt.slice a (some i) none = if ((1 : Int) == 1 && (Builtin.Str.strSliceIndices (some i) none 1 a.length).length == a.length) = true then a else { cps := (List.filterMap (fun x_1 => a.cps[x_1]?) (Builtin.Str.strSliceIndices (some i) none 1 a.length)).toArray } := rfl
    rw [e1]
    by_cases c : ((1 : Int) == 1 && (Builtin.Str.strSliceIndices (some i) none 1 a.length).length == a.length) = true
    · rw [e2, if_pos c] at q
      rw [if_pos c]
      exact ⟨.str _, H, I, ⟨_, rfl⟩, q⟩
    · rw [e2, if_neg c] at q hz
      rw [if_neg c]
      exact ⟨hz, .str _, H, I.tok _, ⟨_, rfl⟩, q⟩
theorem mt_partition : MtR X "str.partition" (fun x vs H Q => ∃ a b, x = .str a ∧ vs = [.str b] ∧ (b.length == 0) = false ∧ a.length ≤ sizeLine ∧ ∀ p, H p = none → Q (.ref p) (upd H p (.tup [.str (Txt.partition a b).1, .str (Txt.partition a b).2.1, .str (Txt.partition a b).2.2]))) := by
  intro pins s σ H x vs v us Q I rx rv h
  obtain ⟨a, b, rfl, rfl, h1, h2, q⟩ := h
  obtain ⟨t, rfl⟩ := rx
  obtain ⟨u, rfl, t', rfl⟩ := rv.one
  refine call_meets PySem.F.slot_str_partition (typeIs_str s a t) PySem.F.entry_str_partition (PySem.F.args_str_partition_2 _ _) (meets_str_partition a b t t' h1 h2) ?_
  have q' := q s.heap.objs.size (I.hok.fresh (Nat.le_refl _))
  unfold Txt.partition at q'
  have z3 : (3 : Nat) ≤ sizeLine := by rw [sizeLine_eq]; decide
  show EP X pins σ Q (.ref s.heap.objs.size) _
  cases e : Builtin.Str.occurrences a b 0 a.length 1 with
  | nil =>
    rw [e] at q'
    exact ⟨.ref s.heap.objs.size, _, I.laid (o := .tup [.str a, .str Str.empty, .str Str.empty]) (fun b ob q => Heap.get?_push_of_some _ q) (Nat.le_refl _) ⟨z3, _, .cons ⟨_, rfl⟩ (.cons ⟨_, rfl⟩ (.cons ⟨_, rfl⟩ .nil)), IsTup.new _ _⟩, rfl, q'⟩
  | cons i r =>
    rw [e] at q'
    exact ⟨.ref s.heap.objs.size, _, I.laid (o := .tup [.str (Builtin.Str.strSub a 0 i), .str b, .str (Builtin.Str.strSub a (i + b.length) a.length)]) (fun b ob q => Heap.get?_push_of_some _ q) (Nat.le_refl _) ⟨z3, _, .cons ⟨_, rfl⟩ (.cons ⟨_, rfl⟩ (.cons ⟨_, rfl⟩ .nil)), IsTup.new _ _⟩, rfl, q'⟩
theorem call_int_text : CallR X (.type "int") (fun xs H Q => ∃ z n, xs = [.str z] ∧ intText? z = some n ∧ z.length ≤ 640 ∧ Q (.int n) H) := by
  intro pins s σ H xs us Q I r h
  obtain ⟨z, n, rfl, h1, h2, q⟩ := h
  obtain ⟨u, rfl, t, rfl⟩ := vals1 r
  exact PySem.W.KIN.call_text h1 h2 ⟨.int n, H, I.tok _, ⟨_, rfl⟩, q⟩
def Its (z : Str) : It := ⟨fun i _ => i < z.cps.size, fun i H x H' => H' = H ∧ ∃ c, z.cps[i]? = some c ∧ x = .str ⟨#[c]⟩, fun i _ => z.cps.size ≤ i⟩
theorem turn_str {P : Program} {w : World} {K : PySem.W.Frag} {tg : Expr} (z : Str) (t : Tok) (it : Addr) : Turn P w K tg (Its z) [it] it (fun i h => h.IsStrIter it "str_ascii_iterator" z t i) where
  mem := by simp
  obj := fun i h st b hb => by
    have e : b = it := by simpa using hb
    subst e
    obtain ⟨o, e, c, d⟩ := st
    exact ⟨o, e, fun v z => by rw [d] at z; cases z⟩
  keep := fun i h h' st k => by
    obtain ⟨o, e, c, d⟩ := st
    exact ⟨o, k it (by simp) o e, c, d⟩
  item := by
    intro X hP hw hK hc i pins s σ H E I hf st hg
    subst hP hw hK
    have hg' : i < z.cps.size := hg
    obtain ⟨f0, f1, f2, f3, f4, f5⟩ := hf it (by simp)
    refine wpAny_pyNext_ascii_item (c := z.cps[i]) st (Array.getElem?_eq_getElem hg') fun h' st' sb => ?_
    have I1 : Inv X pins σ H { s with heap := h', toks := s.toks + 1 } := I.turned (t' := s.toks + 1) (fun b o hb e => (sb.2 b hb).trans e) f0 f1 f3 f4 f5
    obtain ⟨o, e, c, d⟩ := id st'
    exact ⟨_, rfl, go_of (s := { s with heap := h', toks := s.toks + 1 }) e c d (by decide) ⟨.str ⟨#[z.cps[i]]⟩, H, I1, ⟨_, rfl⟩, ⟨rfl, _, Array.getElem?_eq_getElem hg', rfl⟩, st', fun b hb => (hf b hb).1⟩⟩
  done := by
    intro X hP hw hK hc i pins s σ H E I hf st hg
    subst hP hw hK
    have hg' : z.cps.size ≤ i := hg
    obtain ⟨f0, f1, f2, f3, f4, f5⟩ := hf it (by simp)
    exact wpAny_pyNext_ascii_end (I.ok.hd hc) st (Array.getElem?_eq_none hg') fun h' eb => ⟨rfl, I.turned (t' := s.toks) (fun b o hb e => eb b o hb e) f0 f1 f3 f4 f5⟩
  self := fun _ _ _ _ _ st h => wpAny_pyIter_striter_ascii st h
def iStr (tl : TE) : TI := fun σ H R => tl σ H fun x H1 => ∃ z, x = .str z ∧ (z.cps.all fun c => decide (c < 128)) = true ∧ R (Its z) H1
theorem pi_str {tg l : Expr} {tl : TE} (hl : PE X l tl) : PI X tg l (iStr tl) := by
  intro pins s σ H R I h
  refine thn (hl pins s σ H _ I h) fun v s1 ⟨x, H1, I1, r1, q1⟩ => ?_
  obtain ⟨z, rfl, ha, q⟩ := q1
  obtain ⟨t, rfl⟩ := r1
  refine wpAny_pyIter_ascii ha ?_
  refine ⟨s1.heap.objs.size, [s1.heap.objs.size], _, _, H1, rfl, I1.kept (t' := s1.toks) fun b o e => Heap.get?_push_of_some _ e, turn_str z t _, ⟨_, Heap.get?_push_size _ rfl, rfl, rfl⟩, fun b hb => ?_, q⟩
  have e : b = s1.heap.objs.size := by simpa using hb
  subst e
  exact I1.fpOk (Nat.le_refl _) (I1.hok.fresh (Nat.le_refl _))
end
end L3

set_option Elab.async false
set_option linter.all false
set_option maxRecDepth 100000
set_option maxHeartbeats 4000000
/-! for x in reversed(l), l a list -/
namespace L3
open PySem PySem.Spec PyProof.Rows L2
def Itw (K : PySem.W.Frag) (a : Addr) (n : Nat) : It :=
  ⟨fun i H => i < n ∧ ∃ xs, SqL K H a xs ∧ xs.length = n, fun i H x H' => H' = H ∧ ∀ xs, SqL K H a xs → xs[n - 1 - i]? = some x, fun i H => n ≤ i ∧ ∃ xs, SqL K H a xs ∧ xs.length = n⟩
section
variable {X : Cx} {tg : Expr}
def iRevL (K : PySem.W.Frag) (ta : TA) : TI := fun σ H R => ta σ H fun vs H1 => ∃ a xs, vs = [.ref a] ∧ SqL K H1 a xs ∧ R (Itw K a xs.length) H1
end
end L3

set_option Elab.async false
set_option linter.all false
set_option maxRecDepth 100000
set_option maxHeartbeats 4000000
namespace L3
open PySem PySem.Spec PyProof.Rows L2
abbrev cxC3 (X : Cx) (x x2 x3 : Str) (scope : Scope) (cl : List (Str × Addr)) (C : Addr) (s0 : Shared) (H0 : Hp) (fp : List Addr) : Cx :=
  { X with N := x :: x2 :: x3 :: X.N, s₀ := s0, H₀ := H0, env := compEnvC scope cl C X.env, outer := X.stack, ex := fp, fn := fun _ => false, pn := [], xe := fun _ _ => False }
structure CompOk3 (X : Cx) (x x2 x3 : Str) (scope : Scope) (cl : List (Str × Addr)) : Prop where
  base : CompOk X x scope cl
  tg2 : scope.names.lookup x2 = some .local
  tg3 : scope.names.lookup x3 = some .local
  nd2 : x2 ∉ X.N
  nd3 : x3 ∉ X.N
  ne : x ≠ x2
  ne2 : x ≠ x3
  ne3 : x2 ≠ x3
theorem CompOk3.nodup {X : Cx} {x x2 x3 : Str} {scope : Scope} {cl : List (Str × Addr)} (ok : CompOk3 X x x2 x3 scope cl) (hN : X.N.Nodup) : (x :: x2 :: x3 :: X.N).Nodup :=
  List.nodup_cons.mpr ⟨fun h => (List.mem_cons.mp h).elim ok.ne fun h => (List.mem_cons.mp h).elim ok.ne2 ok.base.nd, List.nodup_cons.mpr ⟨fun h => (List.mem_cons.mp h).elim ok.ne3 ok.nd2, List.nodup_cons.mpr ⟨ok.nd3, hN⟩⟩⟩
def tLC3 (K : PySem.W.Frag) (wi : TI) (tt : TT) (te : TE) : TE := fun σ H Q => wi σ H fun J H1 => ∀ acc, H1 acc = none → ∃ W : Nat → Nat → List V → Hp → Prop, (∃ m, W 0 m [] (upd H1 acc (.lst []))) ∧
  ∀ i m xs H, W i m xs H → H acc = some (.lst xs) ∧ ((J.stop i H ∧ Q (.ref acc) H) ∨ (J.go i H ∧ ∀ y H', J.yld i H y H' → ∃ p va vb vc, y = .ref p ∧ SqT K H' p [va, vb, vc] ∧
    tt (some va :: some vb :: some vc :: σ) H' fun ok H2 => if ok = true then te (some va :: some vb :: some vc :: σ) H2 fun v H3 => H3 acc = some (.lst xs) ∧ xs.length < sizeLine ∧ ∃ m', m' < m ∧ W (i + 1) m' (xs ++ [v]) (upd H3 acc (.lst (xs ++ [v]))) else ∃ m', m' < m ∧ W (i + 1) m' xs H2))
section
variable {X : Cx} {x x2 x3 : Str} {kk : Nat} {py pz pt : Pos} {scope : Scope} {cl : List (Str × Addr)} {wi : TI} {tt : TT} {te : TE} {elt iter : Expr} {ifs : List Expr} {px pos : Pos}
end
end L3

set_option Elab.async false
set_option linter.all false
set_option maxRecDepth 100000
set_option maxHeartbeats 4000000
/-! texts: split -/
namespace L3
open PySem PySem.Spec PyProof.Rows L2
section
variable {X : Cx}
theorem vals_strs : ∀ (k : Nat) (l : List Str), Vals (l.map V.str) (strsFrom k l)
  | _, [] => .nil
  | k, x :: r => .cons ⟨k, rfl⟩ (vals_strs (k + 1) r)
theorem mt_split : MtR X "str.split" (fun x vs H Q => ∃ a b, x = .str a ∧ vs = [.str b] ∧ (b.length == 0) = false ∧ a.length + 2 ≤ sizeLine ∧ ∀ p, H p = none → Q (.ref p) (upd H p (.lst ((Txt.split a b).map V.str)))) := by
  intro pins s σ H x vs v us Q I rx rv h
  obtain ⟨a, b, rfl, rfl, hb, hz, q⟩ := h
  obtain ⟨t, rfl⟩ := rx
  obtain ⟨u, rfl, t', rfl⟩ := rv.one
  have q' := q s.heap.objs.size (I.hok.fresh (Nat.le_refl _))
  have hn : (Txt.split a b).length ≤ sizeLine := Nat.le_trans (split_le a b) hz
  have z1 : (1 : Nat) ≤ sizeLine := by rw [sizeLine_eq]; decide
  have self : Txt.split a b = [a] → EP X pins σ Q (.ref s.heap.objs.size) { s with heap := s.heap.push { cls := .type "list", data := .seq [Value.str a t].toArray } } := fun e => by
    rw [e] at q'
    exact ⟨.ref s.heap.objs.size, _, I.lnew (t' := s.toks) (ys := [.str a]) (its := [.str a t]) (.cons ⟨t, rfl⟩ .nil) z1, rfl, q'⟩
  cases h1 : (decide (a.length < b.length) || decide (Builtin.Str.strKind a < Builtin.Str.strKind b)) with
  | false =>
    cases hf : (Builtin.Str.occurrences a b 0 a.length (a.length + 1)).isEmpty with
    | false =>
      have e : Txt.split a b = Builtin.Str.partsBetween a (Builtin.Str.occurrences a b 0 a.length (a.length + 1)) b.length := (if_neg (ne_true_of_eq_false h1)).trans (if_neg (ne_true_of_eq_false hf))
      rw [e] at q' hn
      exact call_meets PySem.F.slot_str_split (typeIs_str s a t) PySem.F.entry_str_split (PySem.F.args_str_split_2 _ _) (meets_str_split_sep a b t t' h1 hb hf (by omega) hn) ⟨.ref s.heap.objs.size, _, I.lnew (vals_strs _ _) (by rw [List.length_map]; exact hn), rfl, q'⟩
    | true => exact call_meets PySem.F.slot_str_split (typeIs_str s a t) PySem.F.entry_str_split (PySem.F.args_str_split_2 _ _) (meets_str_split_not_found a b t t' h1 hb hf) (self ((if_neg (ne_true_of_eq_false h1)).trans (if_pos hf)))
  | true => exact call_meets PySem.F.slot_str_split (typeIs_str s a t) PySem.F.entry_str_split (PySem.F.args_str_split_2 _ _) (meets_str_split_cannot_occur a b t t' h1) (self (if_pos h1))
end
end L3

set_option Elab.async false
set_option linter.all false
set_option maxRecDepth 100000
set_option maxHeartbeats 4000000
/-! DATA READINGS: each expression and statement of the text as a plain function over data. -/
namespace D3
open PySem PySem.Spec PyProof.Rows L2 L3

/-! ### what a name holds, what an expression tells -/
/-- the refusals' classes by their names -/
inductive Ex where
  | BelowError | NoNumber | NoCurve | TooGreat | NoStretch | NoNear | NoPieces | NoText | NoRow | NoName | fnA | fnB
  deriving DecidableEq
/-- names of defs that are handed on -/
def isFn : Ex → Bool
  | .fnA => true
  | .fnB => true
  | _ => false
class Ecx where
  at_ : Ex → Addr
abbrev ecx [Ecx] (n : Ex) : Addr := Ecx.at_ n
inductive Sl where
  | no
  | dat (d : PyData)
  | own (ds : List PyData)
  | exc (C : Ex)
  | prs (o : Option (List PyData × List PyData))
inductive Rz where
  | dat (d : PyData)
  | new (ds : List PyData)
  | use (d : PyData)
  | var (ds : List PyData)
  | exc (C : Ex)
def Rz.d? : Rz → Option PyData
  | .dat d => some d
  | .new ds => some (.list ds)
  | .use d => some d
  | .var ds => some (.list ds)
  | .exc _ => none
inductive Res (α : Type) where
  | ok (a : α)
  | err (C : Ex)
abbrev M (α : Type) := Option (Res α)
def bnd {α β : Type} (m : M α) (k : α → M β) : M β :=
  match m with
  | some (.ok a) => k a
  | some (.err C) => some (.err C)
  | none => none
def okM {α : Type} (a : α) : M α := some (.ok a)
theorem bnd_okM {α β : Type} (a : α) (k : α → M β) : bnd (okM a) k = k a := rfl
theorem bnd_inv {α β : Type} {m : M α} {k : α → M β} {r : Res β} (h : bnd m k = some r) : (∃ a, m = some (.ok a) ∧ k a = some r) ∨ ∃ C, m = some (.err C) ∧ r = .err C := by
  cases m with
  | none => exact nomatch h
  | some m =>
    cases m with
    | ok a => exact .inl ⟨a, rfl, h⟩
    | err C => exact .inr ⟨C, rfl, (Option.some.inj h).symm⟩

/-! ### heaps with lists of one's own -/
def hid (H : Hp) (S : Addr → Bool) : Hp := fun b => if S b = true then none else H b
theorem hid_f {H : Hp} {S : Addr → Bool} {b : Addr} (h : S b = false) : hid H S b = H b := by unfold hid; rw [h]; rfl
theorem hid_t {H : Hp} {S : Addr → Bool} {b : Addr} (h : S b = true) : hid H S b = none := by unfold hid; rw [h]; rfl
theorem hid_up {H : Hp} {S : Addr → Bool} : Same (hid H S) H := fun b o h => by
  by_cases c : S b = true
  · rw [hid_t c] at h; cases h
  · rw [hid_f (by simpa using c)] at h; exact h
theorem same_hid {H H' : Hp} {S : Addr → Bool} (g : Same H H') : Same (hid H S) (hid H' S) := fun b o h => by
  by_cases c : S b = true
  · rw [hid_t c] at h; cases h
  · rw [hid_f (by simpa using c)] at h ⊢; exact g b o h
structure Ext (H : Hp) (S : Addr → Bool) (H' : Hp) (S' : Addr → Bool) : Prop where
  up : Same H H'
  hd : Same (hid H S) (hid H' S')
  sub : ∀ b, S b = true → S' b = true
  new : ∀ b, S' b = true → S b = true ∨ (H b = none ∧ ∃ xs, H' b = some (.lst xs))
theorem Ext.refl {H : Hp} {S : Addr → Bool} : Ext H S H S := ⟨Same.refl _, Same.refl _, fun _ h => h, fun _ h => .inl h⟩
theorem Ext.same {H H' : Hp} {S : Addr → Bool} (g : Same H H') : Ext H S H' S := ⟨g, same_hid g, fun _ h => h, fun _ h => .inl h⟩
theorem Ext.trans {H H1 H2 : Hp} {S S1 S2 : Addr → Bool} (a : Ext H S H1 S1) (b : Ext H1 S1 H2 S2) : Ext H S H2 S2 :=
  ⟨a.up.trans b.up, a.hd.trans b.hd, fun c h => b.sub c (a.sub c h), fun c h => by
    rcases b.new c h with h | ⟨h, xs, e⟩
    · rcases a.new c h with h | ⟨h, xs, e⟩
      · exact .inl h
      · exact .inr ⟨h, xs, b.up _ _ e⟩
    · exact .inr ⟨a.up.free h, xs, e⟩⟩
/-- a new list of one's own -/
def ins (S : Addr → Bool) (a : Addr) : Addr → Bool := fun b => if b = a then true else S b
def del (S : Addr → Bool) (a : Addr) : Addr → Bool := fun b => if b = a then false else S b
theorem ins_same {S : Addr → Bool} {a : Addr} : ins S a a = true := by unfold ins; rw [if_pos rfl]
theorem ins_ne {S : Addr → Bool} {a b : Addr} (h : b ≠ a) : ins S a b = S b := by unfold ins; rw [if_neg h]
theorem del_same {S : Addr → Bool} {a : Addr} : del S a a = false := by unfold del; rw [if_pos rfl]
theorem del_ne {S : Addr → Bool} {a b : Addr} (h : b ≠ a) : del S a b = S b := by unfold del; rw [if_neg h]
theorem hid_ins {H : Hp} {S : Addr → Bool} {a : Addr} {o : HO} (h : H a = none) : hid (upd H a o) (ins S a) = hid H S := by
  funext b
  by_cases c : b = a
  · subst c
    rw [hid_t ins_same]
    cases e : S b with
    | true => rw [hid_t e]
    | false => rw [hid_f e, h]
  · cases e : S b with
    | true => rw [hid_t e, hid_t (by rw [ins_ne c]; exact e)]
    | false => rw [hid_f e, hid_f (by rw [ins_ne c]; exact e), upd_ne c]
theorem hid_mut {H : Hp} {S : Addr → Bool} {a : Addr} {o : HO} (h : S a = true) : hid (upd H a o) S = hid H S := by
  funext b
  cases e : S b with
  | true => rw [hid_t e, hid_t e]
  | false => rw [hid_f e, hid_f e, upd_ne (by intro z; subst z; rw [h] at e; cases e)]
theorem Ext.ins {H : Hp} {S : Addr → Bool} {a : Addr} {xs : List V} (h : H a = none) : Ext H S (upd H a (.lst xs)) (ins S a) :=
  ⟨same_new h _, by rw [hid_ins h]; exact Same.refl _, fun b hb => by
    unfold D3.ins; split
    · rfl
    · exact hb, fun b hb => by
    by_cases c : b = a
    · subst c; exact .inr ⟨h, xs, upd_same⟩
    · rw [ins_ne c] at hb; exact .inl hb⟩
theorem same_del {H : Hp} {S : Addr → Bool} {a : Addr} : Same (hid H S) (hid H (del S a)) := fun b o h => by
  by_cases c : b = a
  · subst c; rw [hid_f del_same]; exact hid_up _ _ h
  · cases e : S b with
    | true => rw [hid_t e] at h; cases h
    | false => rw [hid_f e] at h; rw [hid_f (by rw [del_ne c]; exact e)]; exact h

/-! ### a value by what is told of it -/
variable [Ecx]
/-- what is known of a refusal that a name holds, or of a def -/
def ExAt (H : Hp) (ea : Addr) (C : Ex) : Prop := (isFn C = false ∧ H ea = some (excO ea (.ref (ecx C)))) ∨ (isFn C = true ∧ ea = ecx C)
theorem ExAt.same {H H' : Hp} {ea : Addr} {C : Ex} (g : Same H H') (h : ExAt H ea C) : ExAt H' ea C := by
  rcases h with ⟨a, b⟩ | h
  · exact .inl ⟨a, g _ _ b⟩
  · exact .inr h
theorem ExAt.real {H : Hp} {ea : Addr} {C : Ex} (h : ExAt H ea C) (n : isFn C = false) : H ea = some (excO ea (.ref (ecx C))) := by
  rcases h with ⟨a, b⟩ | ⟨a, b⟩
  · exact b
  · rw [a] at n; cases n
def RV (K : PySem.W.Frag) (H H' : Hp) (S' : Addr → Bool) (v : V) : Rz → Prop
  | .dat d => DV K (hid H' S') v d
  | .new ds => ∃ a xs, v = .ref a ∧ S' a = true ∧ H a = none ∧ H' a = some (.lst xs) ∧ DVs K (hid H' S') xs ds
  | .use d => DV K H' v d
  | .var ds => ∃ a xs, v = .ref a ∧ S' a = true ∧ H' a = some (.lst xs) ∧ DVs K (hid H' S') xs ds
  | .exc C => ∃ ea, v = .ref ea ∧ ExAt (hid H' S') ea C
theorem RV.full {K : PySem.W.Frag} {H H' : Hp} {S' : Addr → Bool} {v : V} {r : Rz} {d : PyData} (h : RV K H H' S' v r) (e : r.d? = some d) : DV K H' v d := by
  cases r with
  | dat x => cases e; exact DV.same hid_up h
  | new ds =>
    cases e
    obtain ⟨a, xs, rfl, _, _, ha, hx⟩ := h
    exact .lst (SqL.of ha) (DVs.same hid_up hx)
  | use x => cases e; exact h
  | var ds =>
    cases e
    obtain ⟨a, xs, rfl, _, ha, hx⟩ := h
    exact .lst (SqL.of ha) (DVs.same hid_up hx)
  | exc C => exact nomatch e
theorem RV.ext {K : PySem.W.Frag} {H H1 H2 : Hp} {S1 S2 : Addr → Bool} {v : V} {r : Rz} (h : RV K H H1 S1 v r) (g : Ext H1 S1 H2 S2) : RV K H H2 S2 v r := by
  cases r with
  | dat x => exact DV.same g.hd h
  | new ds =>
    obtain ⟨a, xs, e, z, n, ha, hx⟩ := h
    exact ⟨a, xs, e, g.sub a z, n, g.up _ _ ha, DVs.same g.hd hx⟩
  | use x => exact DV.same g.up h
  | var ds =>
    obtain ⟨a, xs, e, z, ha, hx⟩ := h
    exact ⟨a, xs, e, g.sub a z, g.up _ _ ha, DVs.same g.hd hx⟩
  | exc C =>
    obtain ⟨ea, e, z⟩ := h
    exact ⟨ea, e, ExAt.same g.hd z⟩
/-- told from a later heap: fine for an earlier one -/
theorem RV.back {K : PySem.W.Frag} {H H1 H2 : Hp} {S1 S2 : Addr → Bool} {v : V} {r : Rz} (g : Ext H S1 H1 S2) {S' : Addr → Bool} (h : RV K H1 H2 S' v r) : RV K H H2 S' v r := by
  cases r with
  | dat x => exact h
  | new ds =>
    obtain ⟨a, xs, e, z, n, ha, hx⟩ := h
    exact ⟨a, xs, e, z, g.up.free n, ha, hx⟩
  | use x => exact h
  | var ds => exact h
  | exc C => exact h

/-- the lists in a pair that only this name holds -/
def Kid (G : Hp) (σ : L2.St) (δ : List Sl) (i : Nat) (a : Addr) : Prop :=
  ∃ o c x y, δ[i]? = some (Sl.prs o) ∧ σ[i]? = some (some (V.ref c)) ∧ G c = some (.tup [.ref x, .ref y]) ∧ (a = x ∨ a = y)
structure Loc (K : PySem.W.Frag) (H0 : Hp) (σ : L2.St) (H : Hp) (δ : List Sl) (S : Addr → Bool) : Prop where
  old : Same H0 H
  frs : ∀ b, S b = true → H0 b = none
  lst : ∀ b, S b = true → ∃ xs, H b = some (.lst xs)
  len : σ.length = δ.length
  dat : ∀ (i : Nat) (d : PyData), δ[i]? = some (Sl.dat d) → ∃ v, σ[i]? = some (some v) ∧ DV K (hid H S) v d
  exc : ∀ (i : Nat) (C : Ex), δ[i]? = some (Sl.exc C) → ∃ ea : Addr, σ[i]? = some (some (.ref ea)) ∧ ExAt (hid H S) ea C
  own : ∀ (i : Nat) (ds : List PyData), δ[i]? = some (Sl.own ds) → ∃ (a : Addr) (xs : List V), σ[i]? = some (some (.ref a)) ∧ S a = true ∧ H a = some (.lst xs) ∧ DVs K (hid H S) xs ds
  one : ∀ (i j : Nat) (ds es : List PyData) (a : Addr), δ[i]? = some (Sl.own ds) → δ[j]? = some (Sl.own es) → σ[i]? = some (some (.ref a)) → σ[j]? = some (some (.ref a)) → i = j
  two : ∀ (i : Nat) (o : Option (List PyData × List PyData)), δ[i]? = some (Sl.prs o) → ∃ (c a b : Addr) (xs ys : List V), σ[i]? = some (some (.ref c)) ∧ hid H S c = some (.tup [.ref a, .ref b]) ∧ S a = true ∧ S b = true ∧
    H a = some (.lst xs) ∧ H b = some (.lst ys) ∧ ∀ ds es, o = some (ds, es) → DVs K (hid H S) xs ds ∧ DVs K (hid H S) ys es
  sep : ∀ (i j : Nat) (ds : List PyData) (a : Addr), Kid (hid H S) σ δ i a → δ[j]? = some (Sl.own ds) → σ[j]? ≠ some (some (.ref a))
  sop : ∀ (i j : Nat) (a : Addr), Kid (hid H S) σ δ i a → Kid (hid H S) σ δ j a → i = j
section
variable {K : PySem.W.Frag} {H0 H H' : Hp} {σ : L2.St} {δ : List Sl} {S S' : Addr → Bool}
theorem Loc.kidBack {G : Hp} {i : Nat} {a : Addr} (L : Loc K H0 σ H δ S) (g : Same (hid H S) G) (k : Kid G σ δ i a) : Kid (hid H S) σ δ i a := by
  obtain ⟨o, c, x, y, e1, e2, e3, e4⟩ := k
  obtain ⟨c', a', b', xs, ys, q1, q2, _⟩ := L.two i o e1
  rw [e2] at q1; cases q1
  have := g _ _ q2
  rw [e3] at this; cases this
  exact ⟨o, c, _, _, e1, e2, q2, e4⟩
theorem Loc.kidIn {i : Nat} {a : Addr} (L : Loc K H0 σ H δ S) (k : Kid (hid H S) σ δ i a) : S a = true := by
  obtain ⟨o, c, x, y, e1, e2, e3, e4⟩ := k
  obtain ⟨c', a', b', xs, ys, q1, q2, q3, q4, _⟩ := L.two i o e1
  rw [e2] at q1; cases q1
  rw [e3] at q2; cases q2
  rcases e4 with rfl | rfl
  · exact q3
  · exact q4
theorem Loc.kids {S1 : Addr → Bool} (L : Loc K H0 σ H δ S) (g : Ext H S H' S1) : ∀ (j : Nat) (b : Addr), Kid (hid H' S1) σ δ j b → H b ≠ none := fun j b k z => by
  obtain ⟨xs, e⟩ := L.lst b (L.kidIn (L.kidBack g.hd k))
  rw [z] at e; cases e
theorem Kid.mk' {G : Hp} {i : Nat} {o : Option (List PyData × List PyData)} {c a b : Addr} (e1 : δ[i]? = some (Sl.prs o)) (e2 : σ[i]? = some (some (V.ref c))) (e3 : G c = some (.tup [.ref a, .ref b])) : Kid G σ δ i a ∧ Kid G σ δ i b :=
  ⟨⟨o, c, a, b, e1, e2, e3, .inl rfl⟩, ⟨o, c, a, b, e1, e2, e3, .inr rfl⟩⟩
theorem Loc.ext (L : Loc K H0 σ H δ S) (g : Ext H S H' S') : Loc K H0 σ H' δ S' := by
  refine ⟨L.old.trans g.up, fun b h => ?_, fun b h => ?_, L.len, fun i d e => ?_, fun i C e => ?_, fun i ds e => ?_, L.one, fun i o e => ?_, fun i j ds a k => L.sep i j ds a (L.kidBack g.hd k), fun i j a k k' => L.sop i j a (L.kidBack g.hd k) (L.kidBack g.hd k')⟩
  · rcases g.new b h with h | ⟨h, _⟩
    · exact L.frs b h
    · exact L.old.free h
  · rcases g.new b h with h | ⟨_, h⟩
    · obtain ⟨xs, e⟩ := L.lst b h
      exact ⟨xs, g.up _ _ e⟩
    · exact h
  · obtain ⟨v, e1, e2⟩ := L.dat i d e
    exact ⟨v, e1, DV.same g.hd e2⟩
  · obtain ⟨v, e1, e2⟩ := L.exc i C e
    exact ⟨v, e1, ExAt.same g.hd e2⟩
  · obtain ⟨a, xs, e1, e2, e3, e4⟩ := L.own i ds e
    exact ⟨a, xs, e1, g.sub _ e2, g.up _ _ e3, DVs.same g.hd e4⟩
  · obtain ⟨c, a, b, xs, ys, q1, q2, q3, q4, q5, q6, q7⟩ := L.two i o e
    exact ⟨c, a, b, xs, ys, q1, g.hd _ _ q2, g.sub _ q3, g.sub _ q4, g.up _ _ q5, g.up _ _ q6, fun ds es z => ⟨DVs.same g.hd (q7 ds es z).1, DVs.same g.hd (q7 ds es z).2⟩⟩
/-- the hidden heap as the ground -/
theorem Loc.ground (L : Loc K H0 σ H δ S) : Loc K (hid H S) σ H δ S := ⟨hid_up, fun _ h => hid_t h, L.lst, L.len, L.dat, L.exc, L.own, L.one, L.two, L.sep, L.sop⟩
theorem Loc.base (L : Loc K H0 σ H δ S) : Same H0 (hid H S) := fun b o h => by
  cases e : S b with
  | true => rw [L.frs b e] at h; cases h
  | false => rw [hid_f e]; exact L.old b o h
theorem set_get {α : Type} {xs : List α} {i j : Nat} {v w : α} (h : (xs.set i v)[j]? = some w) : (i = j ∧ w = v ∧ i < xs.length) ∨ (i ≠ j ∧ xs[j]? = some w) := by
  rw [List.getElem?_set] at h
  split at h
  · rename_i e
    split at h
    · exact .inl ⟨e, (Option.some.inj h).symm, by assumption⟩
    · cases h
  · rename_i e; exact .inr ⟨e, h⟩
theorem Kid.unset {G : Hp} {i j : Nat} {o : Option V} {s : Sl} {a : Addr} (hp : ∀ q, s ≠ .prs q) (k : Kid G (σ.set i o) (δ.set i s) j a) : i ≠ j ∧ Kid G σ δ j a := by
  obtain ⟨q, c, x, y, e1, e2, e3, e4⟩ := k
  rcases set_get e1 with ⟨_, e, _⟩ | ⟨hne, e⟩
  · exact absurd e.symm (hp q)
  · rw [List.getElem?_set_ne hne] at e2
    exact ⟨hne, q, c, x, y, e, e2, e3, e4⟩
theorem Kid.unset' {G : Hp} {i j : Nat} {s : Sl} {a : Addr} (hp : ∀ q, s ≠ .prs q) (k : Kid G σ (δ.set i s) j a) : i ≠ j ∧ Kid G σ δ j a := by
  obtain ⟨q, c, x, y, e1, e2, e3, e4⟩ := k
  rcases set_get e1 with ⟨_, e, _⟩ | ⟨hne, e⟩
  · exact absurd e.symm (hp q)
  · exact ⟨hne, q, c, x, y, e, e2, e3, e4⟩
/-- any name let go, or given a plain value -/
theorem Loc.put {i : Nat} {o : Option V} {s : Sl} (L : Loc K H0 σ H δ S) (hs : ∀ ds, s ≠ .own ds) (hd : ∀ d, s = .dat d → ∃ v, o = some v ∧ DV K (hid H S) v d)
    (hx : ∀ C, s = .exc C → ∃ ea, o = some (.ref ea) ∧ ExAt (hid H S) ea C) (hp : ∀ q, s ≠ .prs q := by intro q z; cases z) : Loc K H0 (σ.set i o) H (δ.set i s) S := by
  refine ⟨L.old, L.frs, L.lst, by rw [List.length_set, List.length_set]; exact L.len, fun j d e => ?_, fun j C e => ?_, fun j ds e => ?_, fun j k ds es a e1 e2 e3 e4 => ?_, fun j q e => ?_, fun j k ds a kd e => ?_, fun j k a kd kd' => L.sop j k a (kd.unset hp).2 (kd'.unset hp).2⟩
  · rcases set_get e with ⟨rfl, e, hl⟩ | ⟨hne, e⟩
    · obtain ⟨v, rfl, q⟩ := hd d e.symm
      exact ⟨v, by rw [List.getElem?_set_self (by rw [L.len]; exact hl)], q⟩
    · obtain ⟨v, e1, q⟩ := L.dat j d e
      exact ⟨v, by rw [List.getElem?_set_ne hne]; exact e1, q⟩
  · rcases set_get e with ⟨rfl, e, hl⟩ | ⟨hne, e⟩
    · obtain ⟨v, rfl, q⟩ := hx C e.symm
      exact ⟨v, by rw [List.getElem?_set_self (by rw [L.len]; exact hl)], q⟩
    · obtain ⟨v, e1, q⟩ := L.exc j C e
      exact ⟨v, by rw [List.getElem?_set_ne hne]; exact e1, q⟩
  · rcases set_get e with ⟨rfl, e, hl⟩ | ⟨hne, e⟩
    · exact absurd e.symm (hs ds)
    · obtain ⟨a, xs, e1, q⟩ := L.own j ds e
      exact ⟨a, xs, by rw [List.getElem?_set_ne hne]; exact e1, q⟩
  · rcases set_get e1 with ⟨_, e, _⟩ | ⟨n1, e1⟩
    · exact absurd e.symm (hs ds)
    · rcases set_get e2 with ⟨_, e, _⟩ | ⟨n2, e2⟩
      · exact absurd e.symm (hs es)
      · rw [List.getElem?_set_ne n1] at e3
        rw [List.getElem?_set_ne n2] at e4
        exact L.one j k ds es a e1 e2 e3 e4
  · rcases set_get e with ⟨_, e, _⟩ | ⟨hne, e⟩
    · exact absurd e.symm (hp q)
    · rw [List.getElem?_set_ne hne]; exact L.two j q e
  · rcases set_get e with ⟨_, e, _⟩ | ⟨hne, e⟩
    · exact absurd e.symm (hs ds)
    · rw [List.getElem?_set_ne hne]; exact L.sep j k ds a (kd.unset hp).2 e
/-- a list of one's own, that no other name holds -/
theorem Loc.putOwn {i : Nat} {a : Addr} {xs : List V} {ds : List PyData} (L : Loc K H0 σ H δ S) (hS : S a = true) (ha : H a = some (.lst xs)) (hx : DVs K (hid H S) xs ds)
    (hn : ∀ (j : Nat) (es : List PyData), δ[j]? = some (Sl.own es) → σ[j]? ≠ some (some (V.ref a))) (hk : ∀ j, ¬ Kid (hid H S) σ δ j a) : Loc K H0 (σ.set i (some (.ref a))) H (δ.set i (.own ds)) S := by
  have hp : ∀ q, Sl.own ds ≠ .prs q := fun q z => nomatch z
  refine ⟨L.old, L.frs, L.lst, by rw [List.length_set, List.length_set]; exact L.len, fun j d e => ?_, fun j C e => ?_, fun j ds' e => ?_, fun j k ds1 es b e1 e2 e3 e4 => ?_, fun j q e => ?_, fun j k ds b kd e => ?_, fun j k b kd kd' => L.sop j k b (kd.unset hp).2 (kd'.unset hp).2⟩
  · rcases set_get e with ⟨rfl, e, hl⟩ | ⟨hne, e⟩
    · cases e
    · obtain ⟨v, e1, q⟩ := L.dat j d e
      exact ⟨v, by rw [List.getElem?_set_ne hne]; exact e1, q⟩
  · rcases set_get e with ⟨rfl, e, hl⟩ | ⟨hne, e⟩
    · cases e
    · obtain ⟨v, e1, q⟩ := L.exc j C e
      exact ⟨v, by rw [List.getElem?_set_ne hne]; exact e1, q⟩
  · rcases set_get e with ⟨rfl, e, hl⟩ | ⟨hne, e⟩
    · cases e
      exact ⟨a, xs, by rw [List.getElem?_set_self (by rw [L.len]; exact hl)], hS, ha, hx⟩
    · obtain ⟨b, ys, e1, q⟩ := L.own j ds' e
      exact ⟨b, ys, by rw [List.getElem?_set_ne hne]; exact e1, q⟩
  · rcases set_get e1 with ⟨h1, f1, l1⟩ | ⟨n1, f1⟩
    · subst h1
      rw [List.getElem?_set_self (by rw [L.len]; exact l1)] at e3
      cases e3
      rcases set_get e2 with ⟨h2, f2, l2⟩ | ⟨n2, f2⟩
      · exact h2
      · rw [List.getElem?_set_ne n2] at e4
        exact absurd e4 (hn k es f2)
    · rw [List.getElem?_set_ne n1] at e3
      rcases set_get e2 with ⟨h2, f2, l2⟩ | ⟨n2, f2⟩
      · subst h2
        rw [List.getElem?_set_self (by rw [L.len]; exact l2)] at e4
        cases e4
        exact absurd e3 (hn j ds1 f1)
      · rw [List.getElem?_set_ne n2] at e4
        exact L.one j k ds1 es b f1 f2 e3 e4
  · rcases set_get e with ⟨_, e, _⟩ | ⟨hne, e⟩
    · cases e
    · rw [List.getElem?_set_ne hne]; exact L.two j q e
  · have kd := (kd.unset hp).2
    rcases set_get e with ⟨h1, e, l1⟩ | ⟨hne, e⟩
    · subst h1
      rw [List.getElem?_set_self (by rw [L.len]; exact l1)]
      intro z; cases z
      exact hk j kd
    · rw [List.getElem?_set_ne hne]; exact L.sep j k ds b kd e
/-- the list at a name is changed -/
theorem Loc.mut {i : Nat} {a : Addr} {ds ds' : List PyData} {xs' : List V} (L : Loc K H0 σ H δ S) (hi : δ[i]? = some (.own ds)) (ha : σ[i]? = some (some (.ref a))) (hx : DVs K (hid H S) xs' ds') :
    Loc K H0 σ (upd H a (.lst xs')) (δ.set i (.own ds')) S := by
  obtain ⟨a', xs, e1, hS, hH, _⟩ := L.own i ds hi
  rw [ha] at e1; cases e1
  have hh := hid_mut (H := H) (o := .lst xs') hS
  have hp : ∀ q, Sl.own ds' ≠ .prs q := fun q z => nomatch z
  have hq : ∀ (j : Nat) (es : List PyData), (δ.set i (.own ds'))[j]? = some (Sl.own es) → ∃ ds2, δ[j]? = some (.own ds2) := fun j es e => by
    rcases set_get e with ⟨rfl, _, _⟩ | ⟨_, e⟩
    · exact ⟨_, hi⟩
    · exact ⟨_, e⟩
  refine ⟨fun b o h => ?_, L.frs, fun b h => ?_, by rw [List.length_set]; exact L.len, fun j d e => ?_, fun j C e => ?_, fun j es e => ?_, fun j k ds1 es b e1 e2 e3 e4 => ?_, fun j q e => ?_, fun j k ds b kd e => ?_, fun j k b kd kd' => ?_⟩
  · have : b ≠ a := by intro z; subst z; rw [L.frs b hS] at h; cases h
    rw [upd_ne this]; exact L.old b o h
  · by_cases c : b = a
    · subst c; exact ⟨xs', upd_same⟩
    · rw [upd_ne c]; exact L.lst b h
  · rw [hh]
    rcases set_get e with ⟨rfl, e, hl⟩ | ⟨hne, e⟩
    · cases e
    · exact L.dat j d e
  · rw [hh]
    rcases set_get e with ⟨rfl, e, hl⟩ | ⟨hne, e⟩
    · cases e
    · exact L.exc j C e
  · rw [hh]
    rcases set_get e with ⟨rfl, e, hl⟩ | ⟨hne, e⟩
    · cases e
      exact ⟨a, xs', ha, hS, upd_same, hx⟩
    · obtain ⟨b, ys, q1, q2, q3, q4⟩ := L.own j es e
      have : b ≠ a := by
        intro z; subst z
        exact hne (L.one i j ds es b hi e ha q1)
      exact ⟨b, ys, q1, q2, by rw [upd_ne this]; exact q3, q4⟩
  · have f1 : ∃ ds2, δ[j]? = some (.own ds2) := by
      rcases set_get e1 with ⟨rfl, _, _⟩ | ⟨_, e⟩
      · exact ⟨_, hi⟩
      · exact ⟨_, e⟩
    have f2 : ∃ ds2, δ[k]? = some (.own ds2) := by
      rcases set_get e2 with ⟨rfl, _, _⟩ | ⟨_, e⟩
      · exact ⟨_, hi⟩
      · exact ⟨_, e⟩
    obtain ⟨d1, f1⟩ := f1
    obtain ⟨d2, f2⟩ := f2
    exact L.one j k d1 d2 b f1 f2 e3 e4
  · rw [hh]
    rcases set_get e with ⟨_, e, _⟩ | ⟨hne, e⟩
    · cases e
    · obtain ⟨c, x, y, xs, ys, q1, q2, q3, q4, q5, q6, q7⟩ := L.two j q e
      obtain ⟨k1, k2⟩ := Kid.mk' (G := hid H S) e q1 q2
      have n1 : x ≠ a := fun z => L.sep j i ds x k1 hi (z ▸ ha)
      have n2 : y ≠ a := fun z => L.sep j i ds y k2 hi (z ▸ ha)
      exact ⟨c, x, y, xs, ys, q1, q2, q3, q4, by rw [upd_ne n1]; exact q5, by rw [upd_ne n2]; exact q6, q7⟩
  · rw [hh] at kd
    obtain ⟨d2, f⟩ := hq k ds e
    exact L.sep j k d2 b (kd.unset' hp).2 f
  · rw [hh] at kd kd'
    exact L.sop j k b (kd.unset' hp).2 (kd'.unset' hp).2
/-- things without lists are seen in the hidden heap too -/
theorem Loc.tk (L : Loc K H0 σ H δ S) : TK H (hid H S) := ⟨fun a xs h => by
    cases e : S a with
    | true => obtain ⟨ys, z⟩ := L.lst a e; rw [h] at z; cases z
    | false => rw [hid_f e]; exact h, fun a o u h => by
    cases e : S a with
    | true => obtain ⟨ys, z⟩ := L.lst a e; rw [h] at z; cases z
    | false => rw [hid_f e]; exact h⟩
end
end D3

set_option Elab.async false
set_option linter.all false
set_option maxRecDepth 100000
set_option maxHeartbeats 4000000
namespace D3
open PySem PySem.Spec PyProof.Rows L2 L3
/-! ### the judgements -/
variable [Ecx]
def EndE (K : PySem.W.Frag) (E : XK) (H : Hp) (S : Addr → Bool) (Q : VK) : Res Rz → Prop
  | .ok z => ∀ v H' S', Ext H S H' S' → RV K H H' S' v z → Q v H'
  | .err C => ∀ H' S', Ext H S H' S' → E (.ref (ecx C)) none H'
def RdE (K : PySem.W.Frag) (E : XK) (t : TE) (f : List Sl → M Rz) : Prop :=
  ∀ (H0 : Hp) (σ : L2.St) (H : Hp) (δ : List Sl) (S : Addr → Bool) (Q : VK) (r : Res Rz), Loc K H0 σ H δ S → f δ = some r → EndE K E H S Q r → t σ H Q
def DE (X : Cx) (E : XK) (e : Expr) (f : List Sl → M Rz) : Prop := ∃ t, PE X e t ∧ RdE X.K E t f
def EndT (E : XK) (H : Hp) (S : Addr → Bool) (Q : Bool → Hp → Prop) : Res Bool → Prop
  | .ok z => ∀ H' S', Ext H S H' S' → Q z H'
  | .err C => ∀ H' S', Ext H S H' S' → E (.ref (ecx C)) none H'
def RdT (K : PySem.W.Frag) (E : XK) (t : TT) (f : List Sl → M Bool) : Prop :=
  ∀ (H0 : Hp) (σ : L2.St) (H : Hp) (δ : List Sl) (S : Addr → Bool) (Q : Bool → Hp → Prop) (r : Res Bool), Loc K H0 σ H δ S → f δ = some r → EndT E H S Q r → t σ H Q
def DT (X : Cx) (E : XK) (e : Expr) (f : List Sl → M Bool) : Prop := ∃ t, PT X e t ∧ RdT X.K E t f
def DW (X : Cx) (E : XK) (e : Expr) (f : List Sl → M Bool) : Prop := ∃ t, PW X e t ∧ RdT X.K E t f
theorem DW.pt {X : Cx} {E : XK} {e : Expr} {f : List Sl → M Bool} (h : DW X E e f) : DT X E e f := let ⟨t, a, b⟩ := h; ⟨t, a.pt, b⟩
inductive RVs (K : PySem.W.Frag) (H H' : Hp) (S' : Addr → Bool) : List V → List Rz → Prop
  | nil : RVs K H H' S' [] []
  | cons {v : V} {vs : List V} {r : Rz} {rs : List Rz} : RV K H H' S' v r → RVs K H H' S' vs rs → RVs K H H' S' (v :: vs) (r :: rs)
def EndA (K : PySem.W.Frag) (E : XK) (H : Hp) (S : Addr → Bool) (Q : List V → Hp → Prop) : Res (List Rz) → Prop
  | .ok z => ∀ vs H' S', Ext H S H' S' → RVs K H H' S' vs z → Q vs H'
  | .err C => ∀ H' S', Ext H S H' S' → E (.ref (ecx C)) none H'
def RdA (K : PySem.W.Frag) (E : XK) (t : TA) (f : List Sl → M (List Rz)) : Prop :=
  ∀ (H0 : Hp) (σ : L2.St) (H : Hp) (δ : List Sl) (S : Addr → Bool) (Q : List V → Hp → Prop) (r : Res (List Rz)), Loc K H0 σ H δ S → f δ = some r → EndA K E H S Q r → t σ H Q
def DA (X : Cx) (E : XK) (es : List Expr) (f : List Sl → M (List Rz)) : Prop := ∃ t, PA X es t ∧ RdA X.K E t f
theorem EndE.ext {K : PySem.W.Frag} {E : XK} {H H1 : Hp} {S S1 : Addr → Bool} {Q : VK} {r : Res Rz} (g : Ext H S H1 S1) (h : EndE K E H S Q r) : EndE K E H1 S1 Q r := by
  cases r with
  | ok z => exact fun v H' S' g' rv => h v H' S' (g.trans g') (rv.back g)
  | err C => exact fun H' S' g' => h H' S' (g.trans g')
theorem EndT.ext {E : XK} {H H1 : Hp} {S S1 : Addr → Bool} {Q : Bool → Hp → Prop} {r : Res Bool} (g : Ext H S H1 S1) (h : EndT E H S Q r) : EndT E H1 S1 Q r := by
  cases r with
  | ok z => exact fun H' S' g' => h H' S' (g.trans g')
  | err C => exact fun H' S' g' => h H' S' (g.trans g')
theorem RVs.ext {K : PySem.W.Frag} {H H1 H2 : Hp} {S1 S2 : Addr → Bool} (g : Ext H1 S1 H2 S2) : ∀ {vs : List V} {rs : List Rz}, RVs K H H1 S1 vs rs → RVs K H H2 S2 vs rs
  | _, _, .nil => .nil
  | _, _, .cons h t => .cons (h.ext g) (RVs.ext g t)
theorem RVs.back {K : PySem.W.Frag} {H H1 H2 : Hp} {S1 S2 S' : Addr → Bool} (g : Ext H S1 H1 S2) : ∀ {vs : List V} {rs : List Rz}, RVs K H1 H2 S' vs rs → RVs K H H2 S' vs rs
  | _, _, .nil => .nil
  | _, _, .cons h t => .cons (h.back g) (RVs.back g t)
theorem EndA.ext {K : PySem.W.Frag} {E : XK} {H H1 : Hp} {S S1 : Addr → Bool} {Q : List V → Hp → Prop} {r : Res (List Rz)} (g : Ext H S H1 S1) (h : EndA K E H S Q r) : EndA K E H1 S1 Q r := by
  cases r with
  | ok z => exact fun v H' S' g' rv => h v H' S' (g.trans g') (rv.back g)
  | err C => exact fun H' S' g' => h H' S' (g.trans g')

/-! ### names and constants -/
section
variable {X : Cx} {E : XK}
def fVar (i : Nat) (δ : List Sl) : M Rz :=
  match δ[i]? with
  | some (.dat d) => okM (.dat d)
  | some (.own ds) => okM (.var ds)
  | some (.exc C) => okM (.exc C)
  | some (.prs (some (ds, es))) => okM (.use (.tuple [.list ds, .list es]))
  | _ => none
theorem rd_var {K : PySem.W.Frag} (i : Nat) : RdE K E (tVar i) (fVar i) := by
  intro H0 σ H δ S Q r L h q
  unfold fVar at h
  split at h
  · rename_i d e
    cases h
    obtain ⟨v, e1, e2⟩ := L.dat i d e
    exact ⟨v, e1, q v H S .refl e2⟩
  · rename_i ds e
    cases h
    obtain ⟨a, xs, e1, e2, e3, e4⟩ := L.own i ds e
    exact ⟨_, e1, q _ H S .refl ⟨a, xs, rfl, e2, e3, e4⟩⟩
  · rename_i C e
    cases h
    obtain ⟨a, e1, e2⟩ := L.exc i C e
    exact ⟨_, e1, q _ H S .refl ⟨a, rfl, e2⟩⟩
  · rename_i ds es e
    cases h
    obtain ⟨c, a, b, xs, ys, q1, q2, q3, q4, q5, q6, q7⟩ := L.two i _ e
    obtain ⟨dx, dy⟩ := q7 ds es rfl
    exact ⟨_, q1, q _ H S .refl (.tup (SqT.of (hid_up _ _ q2)) (.cons (.lst (SqL.of q5) (DVs.same hid_up dx)) (.cons (.lst (SqL.of q6) (DVs.same hid_up dy)) .nil)))⟩
  · exact nomatch h
theorem de_var (i : Nat) {x : Str} {pos : Pos} (hN : X.N[i]? = some x := by rfl) (hv : Vis X.env.scope x := by first | exact Or.inl rfl | exact Or.inr (Or.inl rfl) | exact Or.inr (Or.inr rfl)) (hd : (x == ("__debug__" : Str)) = false := by decide)
    (hcd : (x == ("__classdict__" : Str)) = false := by decide) : DE X E (.Name x pos) (fVar i) := ⟨_, pe_var hN hv hd hcd, rd_var i⟩
def fC (d : PyData) (_ : List Sl) : M Rz := okM (.dat d)
theorem rd_C {K : PySem.W.Frag} {v : V} {d : PyData} (h : ∀ H, DV K H v d) : RdE K E (tC v) (fC d) := by
  intro H0 σ H δ S Q r L e q
  cases e
  exact q v H S .refl (h _)
theorem de_int {i j pos} : DE X E (.Constant (.int i) j pos) (fC (.int i)) := ⟨_, pe_int, rd_C fun _ => .int i⟩
theorem de_bl {b j pos} : DE X E (.Constant (.bool b) j pos) (fC (.bool b)) := ⟨_, pe_bl, rd_C fun _ => .bl b⟩
theorem de_str {x j pos} : DE X E (.Constant (.str x) j pos) (fC (.str x)) := ⟨_, pe_str, rd_C fun _ => .str x⟩
theorem de_glob {x : Str} {v : V} {u : Value} {d : PyData} {pos : Pos} (hm : X.mg x = some u) (r : RelV v u) (hd : ∀ H, DV X.K H v d) (hg : Gl X x := by rfl) (hdb : (x == ("__debug__" : Str)) = false := by decide) : DE X E (.Name x pos) (fC d) :=
  ⟨_, pe_glob hg hm r hdb, rd_C hd⟩

/-! ### two operands -/
def OpD (K : PySem.W.Frag) (E : XK) (r : R2) (g : Rz → Rz → M Rz) : Prop :=
  ∀ (H0 : Hp) (σ : L2.St) (H : Hp) (δ : List Sl) (S : Addr → Bool) (Ha Hb : Hp) (v w : V) (x y : Rz) (z : Res Rz) (Q : VK), Loc K H0 σ H δ S → RV K Ha H S v x → RV K Hb H S w y → g x y = some z → EndE K E H S Q z → r v w H Q
def f2 (g : Rz → Rz → M Rz) (fa fb : List Sl → M Rz) (δ : List Sl) : M Rz := bnd (fa δ) fun x => bnd (fb δ) fun y => g x y
theorem rd2 {K : PySem.W.Frag} {r : R2} {g : Rz → Rz → M Rz} {ta tb : TE} {fa fb : List Sl → M Rz} (hr : OpD K E r g) (ha : RdE K E ta fa) (hb : RdE K E tb fb) : RdE K E (tOp r ta tb) (f2 g fa fb) := by
  intro H0 σ H δ S Q z L h q
  rcases bnd_inv h with ⟨x, h1, h⟩ | ⟨C, h1, rfl⟩
  · refine ha H0 σ H δ S _ _ L h1 fun v H1 S1 g1 rv => ?_
    rcases bnd_inv h with ⟨y, h2, h⟩ | ⟨C, h2, rfl⟩
    · refine hb H0 σ H1 δ S1 _ _ (L.ext g1) h2 fun w H2 S2 g2 rw' => ?_
      exact hr H0 σ H2 δ S2 H H1 v w x y z Q ((L.ext g1).ext g2) (rv.ext g2) rw' h (q.ext (g1.trans g2))
    · exact hb H0 σ H1 δ S1 _ _ (L.ext g1) h2 (EndE.ext g1 q)
  · exact ha H0 σ H δ S _ _ L h1 q
theorem de_bin {a b : Expr} {pos : Pos} {op : Operator} {r : R2} {g : Rz → Rz → M Rz} {fa fb : List Sl → M Rz} (ho : OpR X (binaryOp op) r) (hr : OpD X.K E r g) (ha : DE X E a fa) (hb : DE X E b fb) : DE X E (.BinOp a op b pos) (f2 g fa fb) :=
  let ⟨ta, a1, a2⟩ := ha; let ⟨tb, b1, b2⟩ := hb; ⟨_, pe_op ho a1 b1, rd2 hr a2 b2⟩
theorem de_cmp {a b : Expr} {pos : Pos} {op : CmpOp} {r : R2} {g : Rz → Rz → M Rz} {fa fb : List Sl → M Rz} (ho : OpR X (compareOp op) r) (hr : OpD X.K E r g) (ha : DE X E a fa) (hb : DE X E b fb) (hm : behindInMarks op b = false := by exact nomark _) : DE X E (.Compare a [op] [b] pos) (f2 g fa fb) :=
  let ⟨ta, a1, a2⟩ := ha; let ⟨tb, b1, b2⟩ := hb; ⟨_, pe_cmpR ho a1 b1 hm, rd2 hr a2 b2⟩
/-- a bool told -/
def boolOf (x : Rz) : M Bool :=
  match x.d? with
  | some (.bool b) => okM b
  | _ => none
def fB (f : List Sl → M Rz) (δ : List Sl) : M Bool := bnd (f δ) boolOf
theorem boolOf_inv {x : Rz} {r : Res Bool} (h : boolOf x = some r) : ∃ b, x.d? = some (.bool b) ∧ r = .ok b := by
  unfold boolOf at h
  split at h
  · rename_i b e; cases h; exact ⟨b, e, rfl⟩
  · cases h
theorem rd_test {K : PySem.W.Frag} {t : TE} {f : List Sl → M Rz} (h : RdE K E t f) : RdT K E (fun σ H Q => t σ H fun x H' => ∃ k, x = .bl k ∧ Q k H') (fB f) := by
  intro H0 σ H δ S Q z L e q
  rcases bnd_inv e with ⟨x, h1, e⟩ | ⟨C, h1, rfl⟩
  · obtain ⟨b, eb, rfl⟩ := boolOf_inv e
    refine h H0 σ H δ S _ _ L h1 fun v H1 S1 g1 rv => ?_
    have d := rv.full eb
    cases d
    exact ⟨b, rfl, q H1 S1 g1⟩
  · exact h H0 σ H δ S _ _ L h1 q
theorem dt_cmp {a b : Expr} {pos : Pos} {op : CmpOp} {r : R2} {g : Rz → Rz → M Rz} {fa fb : List Sl → M Rz} (ho : OpR X (compareOp op) r) (hr : OpD X.K E r g) (ha : DE X E a fa) (hb : DE X E b fb) (hm : behindInMarks op b = false := by exact nomark _) : DT X E (.Compare a [op] [b] pos) (fB (f2 g fa fb)) :=
  let ⟨ta, a1, a2⟩ := ha; let ⟨tb, b1, b2⟩ := hb; ⟨_, pt_cmpR ho a1 b1 hm, rd_test (rd2 hr a2 b2)⟩
theorem dt_val {e : Expr} {f : List Sl → M Rz} (h : DE X E e f) (he : ∀ whole, isTrue e X.env whole = (do let v ← whole; standAt e.pos; holding [v] (truthy v)) := by intro _; rfl) : DT X E e (fB f) :=
  let ⟨t, a, b⟩ := h; ⟨_, pt_val a he, rd_test b⟩
/-! ### and, or, not -/
def fNot (f : List Sl → M Bool) (δ : List Sl) : M Bool := bnd (f δ) fun b => okM (!b)
def fAnd (f g : List Sl → M Bool) (δ : List Sl) : M Bool := bnd (f δ) fun b => if b = true then g δ else okM false
def fOr (f g : List Sl → M Bool) (δ : List Sl) : M Bool := bnd (f δ) fun b => if b = true then okM true else g δ
theorem rd_not {K : PySem.W.Frag} {t : TT} {f : List Sl → M Bool} (h : RdT K E t f) : RdT K E (tNot t) (fNot f) := by
  intro H0 σ H δ S Q z L e q
  rcases bnd_inv e with ⟨x, h1, e⟩ | ⟨C, h1, rfl⟩
  · cases e
    exact h H0 σ H δ S _ _ L h1 fun H1 S1 g1 => q H1 S1 g1
  · exact h H0 σ H δ S _ _ L h1 q
theorem rd_and {K : PySem.W.Frag} {t u : TT} {f g : List Sl → M Bool} (h : RdT K E t f) (h' : RdT K E u g) : RdT K E (tAnd t u) (fAnd f g) := by
  intro H0 σ H δ S Q z L e q
  rcases bnd_inv e with ⟨x, h1, e⟩ | ⟨C, h1, rfl⟩
  · refine h H0 σ H δ S _ _ L h1 fun H1 S1 g1 => ?_
    cases x with
    | true => exact iteT (h' H0 σ H1 δ S1 _ _ (L.ext g1) e (EndT.ext g1 q))
    | false => cases e; exact iteF (q H1 S1 g1)
  · exact h H0 σ H δ S _ _ L h1 q
theorem rd_or {K : PySem.W.Frag} {t u : TT} {f g : List Sl → M Bool} (h : RdT K E t f) (h' : RdT K E u g) : RdT K E (tOr t u) (fOr f g) := by
  intro H0 σ H δ S Q z L e q
  rcases bnd_inv e with ⟨x, h1, e⟩ | ⟨C, h1, rfl⟩
  · refine h H0 σ H δ S _ _ L h1 fun H1 S1 g1 => ?_
    cases x with
    | false => exact iteF (h' H0 σ H1 δ S1 _ _ (L.ext g1) e (EndT.ext g1 q))
    | true => cases e; exact iteT (q H1 S1 g1)
  · exact h H0 σ H δ S _ _ L h1 q
variable {a b : Expr} {rest : List Expr} {pos : Pos}
theorem dt_not {f : List Sl → M Bool} (h : DT X E a f) : DT X E (.UnaryOp .Not a pos) (fNot f) := let ⟨t, a, b⟩ := h; ⟨_, pt_not a, rd_not b⟩
theorem dw_and1 {f : List Sl → M Bool} (h : DT X E a f) : DW X E (.BoolOp .And [a] pos) f := let ⟨t, a, b⟩ := h; ⟨_, pw_and1 a, b⟩
theorem dw_or1 {f : List Sl → M Bool} (h : DT X E a f) : DW X E (.BoolOp .Or [a] pos) f := let ⟨t, a, b⟩ := h; ⟨_, pw_or1 a, b⟩
theorem dw_and {f g : List Sl → M Bool} (h : DT X E a f) (h' : DW X E (.BoolOp .And (b :: rest) pos) g) : DW X E (.BoolOp .And (a :: b :: rest) pos) (fAnd f g) := let ⟨t, a, b⟩ := h; let ⟨u, c, d⟩ := h'; ⟨_, pw_and a c, rd_and b d⟩
theorem dw_or {f g : List Sl → M Bool} (h : DT X E a f) (h' : DW X E (.BoolOp .Or (b :: rest) pos) g) : DW X E (.BoolOp .Or (a :: b :: rest) pos) (fOr f g) := let ⟨t, a, b⟩ := h; let ⟨u, c, d⟩ := h'; ⟨_, pw_or a c, rd_or b d⟩
/-- as values -/
def fV (f : List Sl → M Bool) (δ : List Sl) : M Rz := bnd (f δ) fun b => okM (.dat (.bool b))
theorem rd_one {K : PySem.W.Frag} {t : TE} {f : List Sl → M Rz} (h : RdE K E t f) : RdE K E t (fV (fB f)) := by
  intro H0 σ H δ S Q z L e q
  rcases bnd_inv e with ⟨b, h1, e⟩ | ⟨C, h1, rfl⟩
  · rcases bnd_inv h1 with ⟨x, h2, h1⟩ | ⟨C, h2, h3⟩
    · obtain ⟨b', eb, eq⟩ := boolOf_inv h1
      cases eq
      cases e
      refine h H0 σ H δ S _ _ L h2 fun v H1 S1 g1 rv => ?_
      have d := rv.full eb
      cases d
      exact q _ H1 S1 g1 (.bl b)
    · cases h3
  · rcases bnd_inv h1 with ⟨x, h2, h1⟩ | ⟨C', h2, h3⟩
    · obtain ⟨b', eb, eq⟩ := boolOf_inv h1
      cases eq
    · cases h3
      exact h H0 σ H δ S _ _ L h2 q
theorem de_one {op} {f : List Sl → M Rz} (h : DE X E a f) : DE X E (.BoolOp op [a] pos) (fV (fB f)) := let ⟨t, a, b⟩ := h; ⟨_, pe_one a, rd_one b⟩
theorem fV_ok {f : List Sl → M Bool} {δ : List Sl} {z : Res Rz} (h : fV f δ = some z) : (∃ b, f δ = some (.ok b) ∧ z = .ok (.dat (.bool b))) ∨ ∃ C, f δ = some (.err C) ∧ z = .err C := by
  rcases bnd_inv h with ⟨b, h1, e⟩ | ⟨C, h1, rfl⟩
  · cases e; exact .inl ⟨b, h1, rfl⟩
  · exact .inr ⟨C, h1, rfl⟩
theorem de_and {f : List Sl → M Rz} {g : List Sl → M Bool} (h : DE X E a f) (h' : DE X E (.BoolOp .And (b :: rest) pos) (fV g)) : DE X E (.BoolOp .And (a :: b :: rest) pos) (fV (fAnd (fB f) g)) := by
  obtain ⟨t, a1, a2⟩ := h
  obtain ⟨u, c1, c2⟩ := h'
  refine ⟨_, pe_and a1 c1, ?_⟩
  intro H0 σ H δ S Q z L ez q
  rcases fV_ok ez with ⟨k, e, rfl⟩ | ⟨C, e, rfl⟩
  · rcases bnd_inv e with ⟨b, h1, e⟩ | ⟨C, h1, h2⟩
    · rcases bnd_inv h1 with ⟨x, h2, h1⟩ | ⟨C, h2, h3⟩
      · obtain ⟨b', eb, eq⟩ := boolOf_inv h1
        cases eq
        refine a2 H0 σ H δ S _ _ L h2 fun v H1 S1 g1 rv => ?_
        have d := rv.full eb
        cases d
        cases b with
        | true => exact ⟨true, rfl, iteT (c2 H0 σ H1 δ S1 _ _ (L.ext g1) (by unfold fV; rw [(show g δ = some (.ok k) from e)]; rfl) (EndE.ext g1 q))⟩
        | false => cases e; exact ⟨false, rfl, iteF (q _ H1 S1 g1 (.bl false))⟩
      · cases h3
    · cases h2
  · rcases bnd_inv e with ⟨b, h1, e⟩ | ⟨C, h1, h2⟩
    · rcases bnd_inv h1 with ⟨x, h2, h1⟩ | ⟨C, h2, h3⟩
      · obtain ⟨b', eb, eq⟩ := boolOf_inv h1
        cases eq
        refine a2 H0 σ H δ S _ _ L h2 fun v H1 S1 g1 rv => ?_
        have d := rv.full eb
        cases d
        cases b with
        | true => exact ⟨true, rfl, iteT (c2 H0 σ H1 δ S1 _ _ (L.ext g1) (by unfold fV; rw [(show g δ = some (.err C) from e)]; rfl) (EndE.ext g1 q))⟩
        | false => cases e
      · cases h3
    · cases h2
      rcases bnd_inv h1 with ⟨x, h2, h1⟩ | ⟨C', h2, h3⟩
      · obtain ⟨b', eb, eq⟩ := boolOf_inv h1
        cases eq
      · cases h3
        exact a2 H0 σ H δ S _ _ L h2 q
def fIf (c : List Sl → M Bool) (f g : List Sl → M Rz) (δ : List Sl) : M Rz := bnd (c δ) fun b => if b = true then f δ else g δ
theorem de_ifExp {c : Expr} {fc : List Sl → M Bool} {f g : List Sl → M Rz} (hc : DT X E c fc) (ha : DE X E a f) (hb : DE X E b g) : DE X E (.IfExp c a b pos) (fIf fc f g) := by
  obtain ⟨tc, c1, c2⟩ := hc
  obtain ⟨t, a1, a2⟩ := ha
  obtain ⟨u, b1, b2⟩ := hb
  refine ⟨_, pe_ifExp c1 a1 b1, ?_⟩
  intro H0 σ H δ S Q z L e q
  rcases bnd_inv e with ⟨k, h1, e⟩ | ⟨C, h1, rfl⟩
  · refine c2 H0 σ H δ S _ _ L h1 fun H1 S1 g1 => ?_
    cases k with
    | true => exact iteT (a2 H0 σ H1 δ S1 _ _ (L.ext g1) e (EndE.ext g1 q))
    | false => exact iteF (b2 H0 σ H1 δ S1 _ _ (L.ext g1) e (EndE.ext g1 q))
  · exact c2 H0 σ H δ S _ _ L h1 q
end
end D3

set_option Elab.async false
set_option linter.all false
set_option maxRecDepth 100000
set_option maxHeartbeats 4000000
namespace D3
open PySem PySem.Spec PyProof.Rows L2 L3
variable [Ecx]
/-! ### lists of data -/
theorem DVs.len {K : PySem.W.Frag} {H : Hp} : ∀ {xs : List V} {ds : List PyData}, DVs K H xs ds → xs.length = ds.length
  | _, _, .nil => rfl
  | _, _, .cons _ t => by rw [List.length_cons, List.length_cons, DVs.len t]
theorem DVs.get {K : PySem.W.Frag} {H : Hp} : ∀ {xs : List V} {ds : List PyData} {i : Nat} {d : PyData}, DVs K H xs ds → ds[i]? = some d → ∃ v, xs[i]? = some v ∧ DV K H v d
  | _, _, _, _, .nil, h => by simp at h
  | _, _, 0, _, .cons h _, e => by simp at e; subst e; exact ⟨_, rfl, h⟩
  | _, _, i + 1, _, .cons _ t, e => by
    have e' : _ := e
    simp at e'
    obtain ⟨v, h1, h2⟩ := DVs.get t e'
    exact ⟨v, by simpa using h1, h2⟩
theorem DVs.atI {K : PySem.W.Frag} {H : Hp} {xs : List V} {ds : List PyData} {i : Int} {d : PyData} (h : DVs K H xs ds) (e : L2.atI ds i = some d) : ∃ v, L2.atI xs i = some v ∧ DV K H v d := by
  unfold L2.atI at e ⊢
  rw [DVs.len h]
  cases q : ixN ds.length i with
  | none => rw [q] at e; cases e
  | some j => rw [q] at e; exact DVs.get h e
theorem DVs.append {K : PySem.W.Frag} {H : Hp} {ys : List V} {es : List PyData} (b : DVs K H ys es) : ∀ {xs : List V} {ds : List PyData}, DVs K H xs ds → DVs K H (xs ++ ys) (ds ++ es)
  | _, _, .nil => b
  | _, _, .cons h t => .cons h (DVs.append b t)
theorem DVs.drop {K : PySem.W.Frag} {H : Hp} : ∀ (n : Nat) {xs : List V} {ds : List PyData}, DVs K H xs ds → DVs K H (xs.drop n) (ds.drop n)
  | 0, _, _, h => h
  | n + 1, _, _, .nil => .nil
  | n + 1, _, _, .cons _ t => DVs.drop n t
theorem DVs.take {K : PySem.W.Frag} {H : Hp} : ∀ (n : Nat) {xs : List V} {ds : List PyData}, DVs K H xs ds → DVs K H (xs.take n) (ds.take n)
  | 0, _, _, h => by simp; exact .nil
  | n + 1, _, _, .nil => .nil
  | n + 1, _, _, .cons h t => .cons h (DVs.take n t)
theorem DVs.set {K : PySem.W.Frag} {H : Hp} {v : V} {d : PyData} (hv : DV K H v d) : ∀ (j : Nat) {xs : List V} {ds : List PyData}, DVs K H xs ds → DVs K H (xs.set j v) (ds.set j d)
  | _, _, _, .nil => .nil
  | 0, _, _, .cons _ t => .cons hv t
  | j + 1, _, _, .cons h t => .cons h (DVs.set hv j t)
theorem DVs.rep {K : PySem.W.Frag} {H : Hp} {xs : List V} {ds : List PyData} (h : DVs K H xs ds) : ∀ n : Nat, DVs K H (List.replicate n xs).flatten (List.replicate n ds).flatten
  | 0 => .nil
  | n + 1 => by rw [List.replicate_succ, List.replicate_succ, List.flatten_cons, List.flatten_cons]; exact DVs.append (DVs.rep h n) h
theorem DVs.dropLast {K : PySem.W.Frag} {H : Hp} {xs : List V} {ds : List PyData} (h : DVs K H xs ds) : DVs K H xs.dropLast ds.dropLast := by
  rw [List.dropLast_eq_take, List.dropLast_eq_take, DVs.len h]; exact DVs.take _ h
/-- its items, where a thing is a list or a tuple; those that are told of lists of one's own are seen in the hidden heap -/
def seqOf (x : Rz) : Option (Bool × List PyData) :=
  match x.d? with
  | some (.list ds) => some (true, ds)
  | some (.tuple ds) => some (false, ds)
  | _ => none
/-- the items may be kept: they hold no list that may be changed -/
def kept (x : Rz) (ds : List PyData) : Bool :=
  match x with
  | .use _ => noLs ds
  | _ => true
theorem seq_list {K : PySem.W.Frag} {H0 Ha H : Hp} {σ : L2.St} {δ : List Sl} {S : Addr → Bool} {v : V} {x : Rz} {ds : List PyData} (L : Loc K H0 σ H δ S) (r : RV K Ha H S v x) (h : x.d? = some (.list ds)) :
    ∃ a xs, v = .ref a ∧ SqL K H a xs ∧ DVs K H xs ds ∧ (kept x ds = true → DVs K (hid H S) xs ds) := by
  cases x with
  | dat d =>
    cases h
    have r' : DV K (hid H S) v (.list ds) := r
    cases r' with
    | lst hs hx => exact ⟨_, _, rfl, hid_up.seq hs, DVs.same hid_up hx, fun _ => hx⟩
  | use d =>
    cases h
    have r' : DV K H v (.list ds) := r
    cases r' with
    | lst hs hx => exact ⟨_, _, rfl, hs, hx, fun k => DVs.ts L.tk hx k⟩
  | new es =>
    cases h
    obtain ⟨a, xs, rfl, _, _, ha, hx⟩ := r
    exact ⟨a, xs, rfl, SqL.of ha, DVs.same hid_up hx, fun _ => hx⟩
  | var es =>
    cases h
    obtain ⟨a, xs, rfl, _, ha, hx⟩ := r
    exact ⟨a, xs, rfl, SqL.of ha, DVs.same hid_up hx, fun _ => hx⟩
  | exc C => cases h
theorem seq_tup {K : PySem.W.Frag} {H0 Ha H : Hp} {σ : L2.St} {δ : List Sl} {S : Addr → Bool} {v : V} {x : Rz} {ds : List PyData} (L : Loc K H0 σ H δ S) (r : RV K Ha H S v x) (h : x.d? = some (.tuple ds)) :
    ∃ a xs, v = .ref a ∧ SqT K H a xs ∧ DVs K H xs ds ∧ (kept x ds = true → DVs K (hid H S) xs ds ∧ SqT K (hid H S) a xs) := by
  cases x with
  | dat d =>
    cases h
    have r' : DV K (hid H S) v (.tuple ds) := r
    cases r' with
    | tup hs hx => exact ⟨_, _, rfl, SameT hid_up hs, DVs.same hid_up hx, fun _ => ⟨hx, hs⟩⟩
  | use d =>
    cases h
    have r' : DV K H v (.tuple ds) := r
    cases r' with
    | tup hs hx => exact ⟨_, _, rfl, hs, hx, fun k => ⟨DVs.ts L.tk hx k, L.tk.tup hs⟩⟩
  | new es => cases h
  | var es => cases h
  | exc C => cases h

/-! ### numbers -/
def gI (g : Int → Int → Option PyData) (x y : Rz) : M Rz :=
  match x.d?, y.d? with
  | some (.int i), some (.int j) => (match g i j with | some d => okM (.dat d) | none => none)
  | _, _ => none
theorem gI_inv {g : Int → Int → Option PyData} {x y : Rz} {z : Res Rz} (h : gI g x y = some z) : ∃ i j d, x.d? = some (.int i) ∧ y.d? = some (.int j) ∧ g i j = some d ∧ z = .ok (.dat d) := by
  unfold gI at h
  split at h
  · rename_i i j e1 e2
    split at h
    · rename_i d e3; cases h; exact ⟨i, j, d, e1, e2, e3, rfl⟩
    · cases h
  · cases h
theorem od_I {K : PySem.W.Frag} {E : XK} {C : Int → Int → Prop} {g : Int → Int → V} {g' : Int → Int → Option PyData} (hg : ∀ i j d, g' i j = some d → C i j ∧ ∀ H, DV K H (g i j) d) : OpD K E (rI C g) (gI g') := by
  intro H0 σ H δ S Ha Hb v w x y z Q L rx ry h q
  obtain ⟨i, j, d, e1, e2, e3, rfl⟩ := gI_inv h
  have d1 := rx.full e1
  have d2 := ry.full e2
  cases d1; cases d2
  obtain ⟨hc, hv⟩ := hg i j d e3
  exact ⟨i, j, rfl, rfl, hc, q _ H S .refl (hv _)⟩
theorem od_I0 {K : PySem.W.Frag} {E : XK} {g : Int → Int → V} {g' : Int → Int → Option PyData} (hg : ∀ i j d, g' i j = some d → ∀ H, DV K H (g i j) d) : OpD K E (rI0 g) (gI g') := by
  intro H0 σ H δ S Ha Hb v w x y z Q L rx ry h q
  obtain ⟨i, j, d, e1, e2, e3, rfl⟩ := gI_inv h
  have d1 := rx.full e1
  have d2 := ry.full e2
  cases d1; cases d2
  exact ⟨i, j, rfl, rfl, q _ H S .refl (hg i j d e3 _)⟩
open Classical in
noncomputable def gMul (i j : Int) : Option PyData := if IntMulOk i j then some (.int (i * j)) else none
open Classical in
noncomputable def gFdiv (i j : Int) : Option PyData := if j ≠ 0 ∧ j.natAbs < 2 ^ 9000 then some (.int (i.fdiv j)) else none
def gAdd (i j : Int) : Option PyData := some (.int (i + j))
def gSub (i j : Int) : Option PyData := some (.int (i - j))
def gMod (i j : Int) : Option PyData := if j = 0 then none else some (.int (i.fmod j))
open Classical in
noncomputable def gPow (i j : Int) : Option PyData := if CPow i j then some (.int (i ^ j.toNat)) else none
def gLt (i j : Int) : Option PyData := some (.bool (decide (i < j)))
def gLe (i j : Int) : Option PyData := some (.bool (decide (i ≤ j)))
def gGt (i j : Int) : Option PyData := some (.bool (decide (j < i)))
def gGe (i j : Int) : Option PyData := some (.bool (decide (j ≤ i)))
section
variable {K : PySem.W.Frag} {E : XK}
theorem od_add : OpD K E (rI0 fun i j => .int (i + j)) (gI gAdd) := od_I0 fun i j d h H => by cases h; exact .int _
theorem od_sub : OpD K E (rI0 fun i j => .int (i - j)) (gI gSub) := od_I0 fun i j d h H => by cases h; exact .int _
theorem od_lt : OpD K E (rI0 fun i j => .bl (decide (i < j))) (gI gLt) := od_I0 fun i j d h H => by cases h; exact .bl _
theorem od_gt : OpD K E (rI0 fun i j => .bl (decide (j < i))) (gI gGt) := od_I0 fun i j d h H => by cases h; exact .bl _
theorem od_ge : OpD K E (rI0 fun i j => .bl (decide (j ≤ i))) (gI gGe) := od_I0 fun i j d h H => by cases h; exact .bl _
theorem od_mul : OpD K E (rI IntMulOk fun i j => .int (i * j)) (gI gMul) := od_I fun i j d h => by
  unfold gMul at h
  split at h
  · cases h; exact ⟨by assumption, fun _ => .int _⟩
  · cases h
theorem od_fdiv : OpD K E (rI (fun _ j => j ≠ 0 ∧ j.natAbs < 2 ^ 9000) fun i j => .int (i.fdiv j)) (gI gFdiv) := od_I fun i j d h => by
  unfold gFdiv at h
  split at h
  · cases h; exact ⟨by assumption, fun _ => .int _⟩
  · cases h
theorem od_mod : OpD K E (rI (fun _ j => j ≠ 0) fun i j => .int (i.fmod j)) (gI gMod) := od_I fun i j d h => by
  unfold gMod at h
  split at h
  · cases h
  · cases h; exact ⟨by assumption, fun _ => .int _⟩
theorem od_pow : OpD K E (rI CPow fun i j => .int (i ^ j.toNat)) (gI gPow) := od_I fun i j d h => by
  unfold gPow at h
  split at h
  · cases h; exact ⟨by assumption, fun _ => .int _⟩
  · cases h
/-! ### ==, is -/
def gEq (neg : Bool) (x y : Rz) : M Rz :=
  match x.d?, y.d? with
  | some d, some e => if okD d = true ∧ okD e = true then okM (.dat (.bool (if neg then !PyData.eqv d e else PyData.eqv d e))) else none
  | _, _ => none
theorem gEq_inv {neg : Bool} {x y : Rz} {z : Res Rz} (h : gEq neg x y = some z) : ∃ d e, x.d? = some d ∧ y.d? = some e ∧ okD d = true ∧ okD e = true ∧ z = .ok (.dat (.bool (if neg then !PyData.eqv d e else PyData.eqv d e))) := by
  unfold gEq at h
  split at h
  · rename_i d e e1 e2
    split at h
    · rename_i c; cases h; exact ⟨d, e, e1, e2, c.1, c.2, rfl⟩
    · cases h
  · cases h
theorem od_eq : OpD K E (rEqD K) (gEq false) := by
  intro H0 σ H δ S Ha Hb v w x y z Q L rx ry h q
  obtain ⟨d, e, e1, e2, o1, o2, rfl⟩ := gEq_inv h
  exact ⟨d, e, rx.full e1, ry.full e2, o1, o2, q _ H S .refl (.bl _)⟩
theorem od_ne : OpD K E (rNeD K) (gEq true) := by
  intro H0 σ H δ S Ha Hb v w x y z Q L rx ry h q
  obtain ⟨d, e, e1, e2, o1, o2, rfl⟩ := gEq_inv h
  exact ⟨d, e, rx.full e1, ry.full e2, o1, o2, q _ H S .refl (.bl _)⟩
def isNone (x : Rz) : Option Bool :=
  match x with
  | .exc _ => some false
  | .dat .none => some true
  | .dat _ => some false
  | .use .none => some true
  | .use _ => some false
  | _ => some false
def gIs (neg : Bool) (x y : Rz) : M Rz :=
  match y.d?, isNone x with
  | some .none, some b => okM (.dat (.bool (if neg then !b else b)))
  | _, _ => none
/-! ### items -/
def itemD (x : Rz) (d : PyData) : Rz :=
  match x with
  | .use _ => if noL d = true then .dat d else .use d
  | _ => .dat d
def gIx (x y : Rz) : M Rz :=
  match seqOf x, y.d? with
  | some (_, ds), some (.int i) => (match L2.atI ds i with | some d => okM (itemD x d) | none => none)
  | _, _ => none
theorem item_ok {H0 H : Hp} {σ : L2.St} {δ : List Sl} {S : Addr → Bool} {x : Rz} {d : PyData} {i : Int} {xs : List V} {ds : List PyData} (L : Loc K H0 σ H δ S) (hx : DVs K H xs ds) (hk : kept x ds = true → DVs K (hid H S) xs ds) (e : L2.atI ds i = some d) :
    ∃ w, L2.atI xs i = some w ∧ ∀ Hc, RV K Hc H S w (itemD x d) := by
  obtain ⟨w, e1, dw⟩ := DVs.atI hx e
  refine ⟨w, e1, fun Hc => ?_⟩
  cases x with
  | use z =>
    unfold itemD
    dsimp only
    split
    · rename_i c; exact DV.ts L.tk dw c
    · exact dw
  | dat z =>
    obtain ⟨w', e2, dw'⟩ := DVs.atI (hk rfl) e
    rw [e1] at e2; cases e2; exact dw'
  | new z =>
    obtain ⟨w', e2, dw'⟩ := DVs.atI (hk rfl) e
    rw [e1] at e2; cases e2; exact dw'
  | var z =>
    obtain ⟨w', e2, dw'⟩ := DVs.atI (hk rfl) e
    rw [e1] at e2; cases e2; exact dw'
  | exc z =>
    obtain ⟨w', e2, dw'⟩ := DVs.atI (hk rfl) e
    rw [e1] at e2; cases e2; exact dw'
theorem od_ix : OpD K E (rIx K) gIx := by
  intro H0 σ H δ S Ha Hb v w x y z Q L rx ry h q
  unfold gIx at h
  split at h
  · rename_i b ds i e1 e2
    split at h
    · rename_i d e3
      cases h
      have d2 := ry.full e2
      cases d2
      unfold seqOf at e1
      split at e1
      · rename_i es e4
        cases e1
        obtain ⟨a, xs, rfl, hs, hx, hk⟩ := seq_list L rx e4
        obtain ⟨u, e5, ru⟩ := item_ok L hx hk e3
        exact .inl ⟨a, xs, i, u, rfl, rfl, hs, e5, q _ H S .refl (ru _)⟩
      · rename_i es e4
        cases e1
        obtain ⟨a, xs, rfl, hs, hx, hk⟩ := seq_tup L rx e4
        obtain ⟨u, e5, ru⟩ := item_ok L hx (fun k => (hk k).1) e3
        exact .inr (.inl ⟨a, xs, i, u, rfl, rfl, hs, e5, q _ H S .refl (ru _)⟩)
      · cases e1
    · cases h
  · cases h
/-! ### list + list, list * int -/
def ownOf (x : Rz) : Option (List PyData) :=
  match x with
  | .new ds => some ds
  | .var ds => some ds
  | _ => none
theorem own_ok {Ha H : Hp} {S : Addr → Bool} {v : V} {x : Rz} {ds : List PyData} (r : RV K Ha H S v x) (h : ownOf x = some ds) : ∃ a xs, v = .ref a ∧ S a = true ∧ H a = some (.lst xs) ∧ DVs K (hid H S) xs ds := by
  cases x with
  | new es => cases h; obtain ⟨a, xs, e, z, _, q⟩ := r; exact ⟨a, xs, e, z, q⟩
  | var es => cases h; exact r
  | dat d => cases h
  | use d => cases h
  | exc d => cases h
def gCat (x y : Rz) : M Rz :=
  match ownOf x, ownOf y with
  | some ds, some es => if ds.length + es.length ≤ sizeLine then okM (.new (ds ++ es)) else none
  | _, _ => none
theorem od_cat : OpD K E rCat gCat := by
  intro H0 σ H δ S Ha Hb v w x y z Q L rx ry h q
  unfold gCat at h
  split at h
  · rename_i ds es e1 e2
    split at h
    · rename_i hz
      cases h
      obtain ⟨a, xs, rfl, _, ha, hx⟩ := own_ok rx e1
      obtain ⟨b, ys, rfl, _, hb, hy⟩ := own_ok ry e2
      refine ⟨a, b, xs, ys, rfl, rfl, ha, hb, by rw [DVs.len hx, DVs.len hy]; exact hz, fun p hp => ?_⟩
      exact q _ _ (ins S p) (Ext.ins hp) ⟨p, _, rfl, ins_same, hp, upd_same, by rw [hid_ins hp]; exact DVs.append hy hx⟩
    · cases h
  · cases h
def gRep (x y : Rz) : M Rz :=
  match ownOf x, y.d? with
  | some ds, some (.int k) => if -(2 ^ 63) ≤ k ∧ k < 2 ^ 63 ∧ ds.length * k.toNat ≤ sizeLine then okM (.new (List.replicate k.toNat ds).flatten) else none
  | _, _ => none
theorem od_rep : OpD K E rRep gRep := by
  intro H0 σ H δ S Ha Hb v w x y z Q L rx ry h q
  unfold gRep at h
  split at h
  · rename_i ds k e1 e2
    split at h
    · rename_i hz
      cases h
      obtain ⟨a, xs, rfl, _, ha, hx⟩ := own_ok rx e1
      have d2 := ry.full e2
      cases d2
      refine ⟨a, k, xs, rfl, rfl, ha, hz.1, hz.2.1, by rw [DVs.len hx]; exact hz.2.2, fun p hp => ?_⟩
      exact q _ _ (ins S p) (Ext.ins hp) ⟨p, _, rfl, ins_same, hp, upd_same, by rw [hid_ins hp]; exact DVs.rep hx _⟩
    · cases h
  · cases h
/-- tuple + tuple, the first not empty -/
def gCatT (x y : Rz) : M Rz :=
  match x.d?, y.d? with
  | some (.tuple ds), some (.tuple es) => if ds ≠ [] ∧ ds.length + es.length ≤ sizeLine ∧ kept x ds = true ∧ kept y es = true then okM (.dat (.tuple (ds ++ es))) else none
  | _, _ => none
theorem same_upd_hid {H : Hp} {S : Addr → Bool} {p : Addr} {o : HO} (L : ∀ b, S b = true → ∃ xs, H b = some (.lst xs)) (hp : H p = none) : hid (upd H p o) S p = some o := by
  cases e : S p with
  | true => obtain ⟨xs, z⟩ := L p e; rw [hp] at z; cases z
  | false => rw [hid_f e]; exact upd_same
end
end D3

set_option Elab.async false
set_option linter.all false
set_option maxRecDepth 100000
set_option maxHeartbeats 4000000
namespace D3
open PySem PySem.Spec PyProof.Rows L2 L3
variable [Ecx]
section
variable {X : Cx} {E : XK} {K : PySem.W.Frag}
/-! ### argument lists -/
def fNil (_ : List Sl) : M (List Rz) := okM []
def fCons (f : List Sl → M Rz) (g : List Sl → M (List Rz)) (δ : List Sl) : M (List Rz) := bnd (f δ) fun x => bnd (g δ) fun xs => okM (x :: xs)
theorem da_nil : DA X E [] fNil := ⟨_, pa_nil, fun H0 σ H δ S Q r L h q => by cases h; exact q [] H S .refl .nil⟩
theorem da_cons {e : Expr} {es : List Expr} {f : List Sl → M Rz} {g : List Sl → M (List Rz)} (ha : DE X E e f) (hr : DA X E es g) (hs : starEach (e :: es) X.env = (false, eval e X.env) :: starEach es X.env := by rfl) : DA X E (e :: es) (fCons f g) := by
  obtain ⟨t, a1, a2⟩ := ha
  obtain ⟨u, b1, b2⟩ := hr
  refine ⟨_, pa_cons a1 b1 hs, ?_⟩
  intro H0 σ H δ S Q z L h q
  rcases bnd_inv h with ⟨x, h1, h⟩ | ⟨C, h1, rfl⟩
  · refine a2 H0 σ H δ S _ _ L h1 fun v H1 S1 g1 rv => ?_
    rcases bnd_inv h with ⟨xs, h2, h⟩ | ⟨C, h2, rfl⟩
    · cases h
      refine b2 H0 σ H1 δ S1 _ _ (L.ext g1) h2 fun vs H2 S2 g2 rw' => ?_
      exact q _ H2 S2 (g1.trans g2) (.cons (rv.ext g2) (rw'.back g1))
    · exact b2 H0 σ H1 δ S1 _ _ (L.ext g1) h2 fun H2 S2 g2 => q H2 S2 (g1.trans g2)
  · exact a2 H0 σ H δ S _ _ L h1 q
/-! ### calls of built-ins -/
def CallD (K : PySem.W.Frag) (E : XK) (r : List V → Hp → VK → Prop) (g : List Rz → M Rz) : Prop :=
  ∀ (H0 : Hp) (σ : L2.St) (H : Hp) (δ : List Sl) (S : Addr → Bool) (Hs : Hp) (vs : List V) (zs : List Rz) (z : Res Rz) (Q : VK), Loc K H0 σ H δ S → RVs K Hs H S vs zs → g zs = some z → EndE K E H S Q z → r vs H Q
def fCall (g : List Rz → M Rz) (fa : List Sl → M (List Rz)) (δ : List Sl) : M Rz := bnd (fa δ) g
theorem rd_call {t : TA} {r : List V → Hp → VK → Prop} {g : List Rz → M Rz} {fa : List Sl → M (List Rz)} (hd : CallD K E r g) (ha : RdA K E t fa) : RdE K E (fun σ H Q => t σ H fun vs H1 => r vs H1 Q) (fCall g fa) := by
  intro H0 σ H δ S Q z L h q
  rcases bnd_inv h with ⟨x, h1, h⟩ | ⟨C, h1, rfl⟩
  · refine ha H0 σ H δ S _ _ L h1 fun vs H1 S1 g1 rv => ?_
    exact hd H0 σ H1 δ S1 H vs x z Q (L.ext g1) rv h (q.ext g1)
  · exact ha H0 σ H δ S _ _ L h1 q
theorem de_callB {x : Str} {p pos : Pos} {e : Expr} {es : List Expr} {id : String} {r : List V → Hp → VK → Prop} {g : List Rz → M Rz} {fa : List Sl → M (List Rz)} (hc : CallR X (.builtin id) r) (hd : CallD X.K E r g) (hm : X.mg x = none) (hv : bootBuiltins x = some (.builtin id)) (ha : DA X E (e :: es) fa)
    (hg : Gl X x := by rfl) (hn : x ≠ "__name__" := by decide) (hdb : (x == ("__debug__" : Str)) = false := by decide) (he : starEach (e :: es) X.env = (false, eval e X.env) :: starEach es X.env := by rfl) (hpl : (backTo pos (starEach es X.env)).any (·.1) = false := by rfl) :
    DE X E (.Call (.Name x p) (e :: es) [] pos) (fCall g fa) :=
  let ⟨_, a, b⟩ := ha; ⟨_, pe_callB hc hg hm hv a hn hdb he hpl, rd_call hd b⟩
theorem de_callTy {x : Str} {p pos : Pos} {e : Expr} {es : List Expr} {id : String} {r : List V → Hp → VK → Prop} {g : List Rz → M Rz} {fa : List Sl → M (List Rz)} (hc : CallR X (.type id) r) (hd : CallD X.K E r g) (hm : X.mg x = none) (hv : bootBuiltins x = some (.type id)) (ha : DA X E (e :: es) fa)
    (hg : Gl X x := by rfl) (hn : x ≠ "__name__" := by decide) (hdb : (x == ("__debug__" : Str)) = false := by decide) (he : starEach (e :: es) X.env = (false, eval e X.env) :: starEach es X.env := by rfl) (hpl : (backTo pos (starEach es X.env)).any (·.1) = false := by rfl) :
    DE X E (.Call (.Name x p) (e :: es) [] pos) (fCall g fa) :=
  let ⟨_, a, b⟩ := ha; ⟨_, pe_callTy hc hg hm hv a hn hdb he hpl, rd_call hd b⟩
theorem rvs1 {Hs H : Hp} {S : Addr → Bool} {vs : List V} {x : Rz} (h : RVs K Hs H S vs [x]) : ∃ v, vs = [v] ∧ RV K Hs H S v x := by
  cases h with
  | cons a b => cases b; exact ⟨_, rfl, a⟩
theorem rvs2 {Hs H : Hp} {S : Addr → Bool} {vs : List V} {x y : Rz} (h : RVs K Hs H S vs [x, y]) : ∃ v w, vs = [v, w] ∧ RV K Hs H S v x ∧ RV K Hs H S w y := by
  cases h with
  | cons a b =>
    obtain ⟨w, rfl, c⟩ := rvs1 b
    exact ⟨_, w, rfl, a, c⟩
def g1 (g : Rz → M Rz) (zs : List Rz) : M Rz :=
  match zs with
  | [x] => g x
  | _ => none
def g2 (g : Rz → Rz → M Rz) (zs : List Rz) : M Rz :=
  match zs with
  | [x, y] => g x y
  | _ => none
theorem cd1 {r : V → Hp → VK → Prop} {g : Rz → M Rz} (h : ∀ (H0 : Hp) (σ : L2.St) (H : Hp) (δ : List Sl) (S : Addr → Bool) (Hs : Hp) (v : V) (x : Rz) (z : Res Rz) (Q : VK), Loc K H0 σ H δ S → RV K Hs H S v x → g x = some z → EndE K E H S Q z → r v H Q)
    {r' : List V → Hp → VK → Prop} (hr : ∀ v H Q, r v H Q → r' [v] H Q) : CallD K E r' (g1 g) := by
  intro H0 σ H δ S Hs vs zs z Q L rs h' q
  unfold g1 at h'
  split at h'
  · obtain ⟨v, rfl, rv⟩ := rvs1 rs
    exact hr _ _ _ (h H0 σ H δ S Hs v _ z Q L rv h' q)
  · cases h'
def lenOf (x : Rz) : M Rz :=
  match seqOf x with
  | some (_, ds) => okM (.dat (.int ds.length))
  | none => none
theorem cd_len : CallD K E (fun xs H Q => ∃ p ys, xs = [.ref p] ∧ (SqL K H p ys ∨ SqT K H p ys) ∧ Q (.int ys.length) H) (g1 lenOf) := by
  refine cd1 (r := fun v H Q => ∃ p ys, [v] = [V.ref p] ∧ (SqL K H p ys ∨ SqT K H p ys) ∧ Q (.int ys.length) H) (fun H0 σ H δ S Hs v x z Q L rv h q => ?_) (fun _ _ _ h => h)
  unfold lenOf at h
  split at h
  · rename_i b ds e
    cases h
    unfold seqOf at e
    split at e
    · rename_i es e4
      cases e
      obtain ⟨a, xs, rfl, hs, hx, _⟩ := seq_list L rv e4
      refine ⟨a, xs, rfl, .inl hs, ?_⟩
      rw [DVs.len hx]; exact q _ H S .refl (.int _)
    · rename_i es e4
      cases e
      obtain ⟨a, xs, rfl, hs, hx, _⟩ := seq_tup L rv e4
      refine ⟨a, xs, rfl, .inr hs, ?_⟩
      rw [DVs.len hx]; exact q _ H S .refl (.int _)
    · cases e
  · cases h
def absOf (x : Rz) : M Rz :=
  match x.d? with
  | some (.int i) => okM (.dat (.int (if i < 0 then -i else i)))
  | _ => none
theorem cd_abs : CallD K E (fun xs H Q => ∃ i, xs = [.int i] ∧ Q (.int (if i < 0 then -i else i)) H) (g1 absOf) := by
  refine cd1 (r := fun v H Q => ∃ i, [v] = [V.int i] ∧ Q (.int (if i < 0 then -i else i)) H) (fun H0 σ H δ S Hs v x z Q L rv h q => ?_) (fun _ _ _ h => h)
  unfold absOf at h
  split at h
  · rename_i i e
    cases h
    have d := rv.full e
    cases d
    exact ⟨i, rfl, q _ H S .refl (.int _)⟩
  · cases h
def intOf (x : Rz) : M Rz :=
  match x.d? with
  | some (.int i) => okM (.dat (.int i))
  | some (.bool b) => okM (.dat (.int (if b then 1 else 0)))
  | _ => none
theorem cd_int : CallD K E (fun xs H Q => (∃ i, xs = [.int i] ∧ Q (.int i) H) ∨ ∃ k, xs = [.bl k] ∧ Q (.int (if k then 1 else 0)) H) (g1 intOf) := by
  refine cd1 (r := fun v H Q => (∃ i, [v] = [V.int i] ∧ Q (.int i) H) ∨ ∃ k, [v] = [V.bl k] ∧ Q (.int (if k then 1 else 0)) H) (fun H0 σ H δ S Hs v x z Q L rv h q => ?_) (fun _ _ _ h => h)
  unfold intOf at h
  split at h
  · rename_i i e
    cases h
    have d := rv.full e
    cases d
    exact .inl ⟨i, rfl, q _ H S .refl (.int _)⟩
  · rename_i i e
    cases h
    have d := rv.full e
    cases d
    exact .inr ⟨i, rfl, q _ H S .refl (.int _)⟩
  · cases h
def gMax (i j : Int) : Option PyData := some (.int (if j > i then j else i))
def gMin (i j : Int) : Option PyData := some (.int (if j < i then j else i))
/-- tuple(x), list(x) -/
def tupleOf (x : Rz) : M Rz :=
  match x.d? with
  | some (.list ds) => if kept x ds = true then okM (.dat (.tuple ds)) else none
  | some (.tuple ds) => if kept x ds = true then okM (.dat (.tuple ds)) else none
  | _ => none
theorem cd_tuple : CallD K E (fun xs H Q => ∃ p ys, xs = [.ref p] ∧ ((SqL K H p ys ∧ ∀ l, H l = none → Q (.ref l) (upd H l (.tup ys))) ∨ (SqT K H p ys ∧ Q (.ref p) H))) (g1 tupleOf) := by
  refine cd1 (r := fun v H Q => ∃ p ys, [v] = [V.ref p] ∧ ((SqL K H p ys ∧ ∀ l, H l = none → Q (.ref l) (upd H l (.tup ys))) ∨ (SqT K H p ys ∧ Q (.ref p) H))) (fun H0 σ H δ S Hs v x z Q L rv h q => ?_) (fun _ _ _ h => h)
  unfold tupleOf at h
  split at h
  · rename_i ds e
    split at h
    · rename_i k
      cases h
      obtain ⟨a, xs, rfl, hs, hx, hk⟩ := seq_list L rv e
      refine ⟨a, xs, rfl, .inl ⟨hs, fun l hl => ?_⟩⟩
      have g : Ext H S (upd H l (.tup xs)) S := Ext.same (same_new hl _)
      exact q _ _ S g (.tup (SqT.of (same_upd_hid L.lst hl)) (DVs.same g.hd (hk k)))
    · cases h
  · rename_i ds e
    split at h
    · rename_i k
      cases h
      obtain ⟨a, xs, rfl, hs, hx, hk⟩ := seq_tup L rv e
      exact ⟨a, xs, rfl, .inr ⟨hs, q _ H S .refl (.tup (hk k).2 (hk k).1)⟩⟩
    · cases h
  · cases h
def listOf (x : Rz) : M Rz :=
  match seqOf x with
  | some (_, ds) => if kept x ds = true then okM (.new ds) else none
  | none => none
/-! ### displays -/
def datOf (x : Rz) : Option PyData :=
  match x with
  | .dat d => some d
  | .use d => if noL d = true then some d else none
  | _ => none
theorem datOf_ok {H0 Hs H : Hp} {σ : L2.St} {δ : List Sl} {S : Addr → Bool} {v : V} {x : Rz} {d : PyData} (L : Loc K H0 σ H δ S) (r : RV K Hs H S v x) (h : datOf x = some d) : DV K (hid H S) v d := by
  cases x with
  | dat e => cases h; exact r
  | use e =>
    unfold datOf at h
    dsimp only at h
    split at h
    · cases h; exact DV.ts L.tk r (by assumption)
    · cases h
  | new e => cases h
  | var e => cases h
  | exc e => cases h
def datsOf : List Rz → Option (List PyData)
  | [] => some []
  | x :: xs => match datOf x, datsOf xs with
    | some d, some ds => some (d :: ds)
    | _, _ => none
theorem datsOf_ok {H0 Hs H : Hp} {σ : L2.St} {δ : List Sl} {S : Addr → Bool} (L : Loc K H0 σ H δ S) : ∀ {vs : List V} {zs : List Rz} {ds : List PyData}, RVs K Hs H S vs zs → datsOf zs = some ds → DVs K (hid H S) vs ds
  | _, _, _, .nil, h => by cases h; exact .nil
  | _, _, _, .cons r t, h => by
    unfold datsOf at h
    split at h
    · rename_i d ds e1 e2
      cases h
      exact .cons (datOf_ok L r e1) (datsOf_ok L t e2)
    · cases h
def gTup (zs : List Rz) : M Rz :=
  match datsOf zs with
  | some ds => if ds.length ≤ sizeLine then okM (.dat (.tuple ds)) else none
  | none => none
def gLst (zs : List Rz) : M Rz :=
  match datsOf zs with
  | some ds => if ds.length ≤ sizeLine then okM (.new ds) else none
  | none => none
theorem de_tup {es : List Expr} {x1} {pos : Pos} {fa : List Sl → M (List Rz)} (h : DA X E es fa) : DE X E (.Tuple es x1 pos) (fCall gTup fa) := by
  obtain ⟨t, a, b⟩ := h
  refine ⟨_, pe_tup a, rd_call (r := fun xs H1 Q => xs.length ≤ sizeLine ∧ ∀ p, H1 p = none → Q (.ref p) (upd H1 p (.tup xs))) ?_ b⟩
  intro H0 σ H δ S Hs vs zs z Q L rs h q
  unfold gTup at h
  split at h
  · rename_i ds e
    split at h
    · rename_i hl
      cases h
      have hx := datsOf_ok L rs e
      refine ⟨by rw [DVs.len hx]; exact hl, fun p hp => ?_⟩
      have g : Ext H S (upd H p (.tup vs)) S := Ext.same (same_new hp _)
      exact q _ _ S g (.tup (SqT.of (same_upd_hid L.lst hp)) (DVs.same g.hd hx))
    · cases h
  · cases h
theorem de_lst {es : List Expr} {pos : Pos} {fa : List Sl → M (List Rz)} (h : DA X E es fa) : DE X E (.List es pos) (fCall gLst fa) := by
  obtain ⟨t, a, b⟩ := h
  refine ⟨_, pe_lst a, rd_call (r := fun xs H1 Q => xs.length ≤ sizeLine ∧ ∀ p, H1 p = none → Q (.ref p) (upd H1 p (.lst xs))) ?_ b⟩
  intro H0 σ H δ S Hs vs zs z Q L rs h q
  unfold gLst at h
  split at h
  · rename_i ds e
    split at h
    · rename_i hl
      cases h
      have hx := datsOf_ok L rs e
      refine ⟨by rw [DVs.len hx]; exact hl, fun p hp => ?_⟩
      exact q _ _ (ins S p) (Ext.ins hp) ⟨p, vs, rfl, ins_same, hp, upd_same, by rw [hid_ins hp]; exact hx⟩
    · cases h
  · cases h
end
end D3

set_option Elab.async false
set_option linter.all false
set_option maxRecDepth 100000
set_option maxHeartbeats 4000000
namespace D3
open PySem PySem.Spec PyProof.Rows L2 L3
variable [Ecx]
/-- what a place of the text brings along -/
structure Fit (n : Nat) (X : Cx) (E : XK) : Prop where
  hx : Passes (CXR X.prog X.w) X E
  ra : RaisesTo X E
  po : PassesOwn (model X.prog X.w) X.A X.env X.xe
  cm : X.calm = true
  rm : Room n X.A
  nd : X.N.Nodup
inductive Out where
  | val (d : PyData)
  | fresh (ds : List PyData)
  | mine (d : PyData)
  | two (ds es : List PyData)
  | lsts (ds : List PyData)
  | newls (ds : List PyData)
inductive Fl where
  | next (δ : List Sl)
  | ret (o : Out)
  | brk (δ : List Sl)
  | cnt (δ : List Sl)
  | exc (C : Ex)
/-- the heap without the lists that were there before -/
def newL (H0 H : Hp) : Hp := fun b => match H0 b with
  | none => H b
  | some _ => (match H b with | some (.lst _) => none | o => o)
theorem newL_up {H0 H : Hp} : Same (newL H0 H) H := fun b o h => by
  unfold newL at h
  split at h
  · exact h
  · split at h
    · cases h
    · exact h
theorem newL_mono {H0 H1 H : Hp} (g : Same H0 H1) : Same (newL H1 H) (newL H0 H) := fun b o h => by
  unfold newL at *
  cases e1 : H1 b with
  | none =>
    rw [e1] at h
    rw [g.free e1]; exact h
  | some u =>
    rw [e1] at h
    dsimp only at h
    cases e0 : H0 b with
    | none =>
      dsimp only
      split at h
      · cases h
      · exact h
    | some u' => exact h
theorem newL_new {H0 H : Hp} {a : Addr} (h : H0 a = none) : newL H0 H a = H a := by unfold newL; rw [h]
def wo (H : Hp) (a : Addr) : Hp := fun b => if b = a then none else H b
theorem wo_up {H : Hp} {a : Addr} : Same (wo H a) H := fun b o h => by
  unfold wo at h
  split at h
  · cases h
  · exact h
theorem wo_hid {H : Hp} {S : Addr → Bool} {a : Addr} (h : S a = true) : Same (hid H S) (wo H a) := fun b o e => by
  have : b ≠ a := by intro z; subst z; rw [hid_t h] at e; cases e
  unfold wo
  rw [if_neg this]; exact hid_up _ _ e
def RetOk (K : PySem.W.Frag) (H0 : Hp) (Q : VK) : Out → Prop
  | .val d => ∀ v H, Same H0 H → DV K H v d → Q v H
  | .fresh ds => ∀ a xs H, Same H0 H → H0 a = none → H a = some (.lst xs) → DVs K H xs ds → noLs ds = true → Q (.ref a) H
  | .mine d => ∀ v H, Same H0 H → DV K (newL H0 H) v d → Q v H
  | .two ds es => ∀ c a b xs ys H, Same H0 H → H0 c = none → H0 a = none → H0 b = none → H c = some (.tup [.ref a, .ref b]) → H a = some (.lst xs) → H b = some (.lst ys) → DVs K H xs ds → DVs K H ys es → noLs ds = true → noLs es = true → Q (.ref c) H
  | .lsts ds => ∀ a xs H, Same H0 H → H0 a = none → H a = some (.lst xs) → DVs K (wo H a) xs ds → Q (.ref a) H
  | .newls ds => ∀ a xs H, Same H0 H → H0 a = none → H a = some (.lst xs) → DVs K (newL H0 (wo H a)) xs ds → Q (.ref a) H
def EndS (K : PySem.W.Frag) (E : XK) (H0 : Hp) (D : Ends) : Fl → Prop
  | .next δ => ∀ σ H S, Loc K H0 σ H δ S → D.nx σ H
  | .brk δ => ∀ σ H S, Loc K H0 σ H δ S → D.bk σ H
  | .cnt δ => ∀ σ H S, Loc K H0 σ H δ S → D.ct σ H
  | .ret o => RetOk K H0 D.rt o
  | .exc C => ∀ H, Same H0 H → E (.ref (ecx C)) none H
def RdS (K : PySem.W.Frag) (E : XK) (t : TS) (f : List Sl → Option Fl) : Prop :=
  ∀ (H0 : Hp) (σ : L2.St) (H : Hp) (δ : List Sl) (S : Addr → Bool) (D : Ends) (fl : Fl), Loc K H0 σ H δ S → f δ = some fl → EndS K E H0 D fl → t D σ H
def DS (X : Cx) (E : XK) (st : Stmt) (f : List Sl → Option Fl) : Prop := ∃ t, PS X st t ∧ RdS X.K E t f
def DSs (X : Cx) (E : XK) (st : List Stmt) (f : List Sl → Option Fl) : Prop := ∃ t, PSs X st t ∧ RdS X.K E t f
/-- a ground further up serves too -/
theorem RetOk.up {K : PySem.W.Frag} {H0 H1 : Hp} {Q : VK} {o : Out} (g : Same H0 H1) (h : RetOk K H0 Q o) : RetOk K H1 Q o := by
  cases o with
  | val d => exact fun v H s => h v H (g.trans s)
  | fresh ds => exact fun a xs H s n => h a xs H (g.trans s) (g.free n)
  | mine d => exact fun v H s dv => h v H (g.trans s) (DV.same (newL_mono g) dv)
  | two ds es => exact fun c a b xs ys H s n1 n2 n3 => h c a b xs ys H (g.trans s) (g.free n1) (g.free n2) (g.free n3)
  | lsts ds => exact fun a xs H s n => h a xs H (g.trans s) (g.free n)
  | newls ds => exact fun a xs H s n ha hx => h a xs H (g.trans s) (g.free n) ha (DVs.same (newL_mono g) hx)
/-! ### blocks -/
def fNext (δ : List Sl) : Option Fl := some (.next δ)
def fSeq (f g : List Sl → Option Fl) (δ : List Sl) : Option Fl :=
  match f δ with
  | some (.next δ') => g δ'
  | r => r
section
variable {X : Cx} {E : XK} {K : PySem.W.Frag}
theorem dss_nil : DSs X E [] fNext := ⟨_, pss_nil, fun H0 σ H δ S D fl L h q => by cases h; exact q σ H S L⟩
theorem rd_seq {t u : TS} {f g : List Sl → Option Fl} (ht : RdS K E t f) (hu : RdS K E u g) : RdS K E (tSeq t u) (fSeq f g) := by
  intro H0 σ H δ S D fl L h q
  unfold fSeq at h
  split at h
  · rename_i δ' e
    exact ht H0 σ H δ S _ _ L e fun σ1 H1 S1 L1 => hu H0 σ1 H1 δ' S1 D fl L1 h q
  · rename_i r hr
    refine ht H0 σ H δ S _ fl L h ?_
    cases fl with
    | next δ' => exact absurd h (hr δ')
    | ret o => exact q
    | brk δ' => exact q
    | cnt δ' => exact q
    | exc C => exact q
theorem dss_cons {st : Stmt} {rest : List Stmt} {f g : List Sl → Option Fl} (h1 : DS X E st f) (h2 : DSs X E rest g) : DSs X E (st :: rest) (fSeq f g) :=
  let ⟨_, a, b⟩ := h1; let ⟨_, c, d⟩ := h2; ⟨_, pss_cons a c, rd_seq b d⟩
theorem dss_one {st : Stmt} {f : List Sl → Option Fl} (h1 : DS X E st f) : DSs X E [st] f := let ⟨_, a, b⟩ := h1; ⟨_, pss_one a, b⟩
def fBrk (δ : List Sl) : Option Fl := some (.brk δ)
def fCnt (δ : List Sl) : Option Fl := some (.cnt δ)
theorem ds_continue {pos : Pos} : DS X E (.Continue pos) fCnt := ⟨_, ps_continue, fun H0 σ H δ S D fl L h q => by cases h; exact q σ H S L⟩
/-- an expression's end, then the statement's -/
def bS {α : Type} (m : M α) (k : α → Option Fl) : Option Fl :=
  match m with
  | some (.ok a) => k a
  | some (.err C) => some (.exc C)
  | none => none
theorem bS_inv {α : Type} {m : M α} {k : α → Option Fl} {r : Fl} (h : bS m k = some r) : (∃ a, m = some (.ok a) ∧ k a = some r) ∨ ∃ C, m = some (.err C) ∧ r = .exc C := by
  unfold bS at h
  split at h
  · exact .inl ⟨_, rfl, h⟩
  · cases h; exact .inr ⟨_, rfl, rfl⟩
  · cases h
theorem exc_ext {H0 H : Hp} {σ : L2.St} {δ : List Sl} {S : Addr → Bool} {D : Ends} {C : Ex} (L : Loc K H0 σ H δ S) (q : EndS K E H0 D (.exc C)) : ∀ H' S', Ext H S H' S' → E (.ref (ecx C)) none H' := fun H' S' g => q H' (L.old.trans g.up)
/-! ### name = value -/
def slotOf (x : Rz) : Option Sl :=
  match x with
  | .dat d => some (.dat d)
  | .new ds => some (.own ds)
  | .use d => if noL d = true then some (.dat d) else none
  | .exc C => some (.exc C)
  | .var _ => none
theorem Loc.slot {H0 Hs H : Hp} {σ : L2.St} {δ : List Sl} {S : Addr → Bool} {v : V} {x : Rz} {s : Sl} {i : Nat} (L : Loc K H0 σ H δ S) (hs : ∀ (j : Nat) (ds : List PyData), δ[j]? = some (Sl.own ds) → ∃ a, σ[j]? = some (some (V.ref a)) ∧ Hs a ≠ none) (hk : ∀ (j : Nat) (b : Addr), Kid (hid H S) σ δ j b → Hs b ≠ none) (r : RV K Hs H S v x) (h : slotOf x = some s) :
    Loc K H0 (σ.set i (some v)) H (δ.set i s) S := by
  cases x with
  | dat d => cases h; exact L.put (fun _ z => nomatch z) (fun d' e => by cases e; exact ⟨v, rfl, r⟩) (fun _ z => nomatch z)
  | new ds =>
    cases h
    obtain ⟨a, xs, rfl, z, n, ha, hx⟩ := r
    refine L.putOwn z ha hx (fun j es e c => ?_) fun j k => hk j a k n
    obtain ⟨b, e1, e2⟩ := hs j es e
    rw [c] at e1; cases e1
    exact e2 n
  | use d =>
    unfold slotOf at h
    dsimp only at h
    split at h
    · rename_i k
      cases h
      exact L.put (fun _ z => nomatch z) (fun d' e => by cases e; exact ⟨v, rfl, DV.ts L.tk r k⟩) (fun _ z => nomatch z)
    · cases h
  | var ds => cases h
  | exc C =>
    cases h
    obtain ⟨ea, rfl, z⟩ := r
    exact L.put (fun _ z => nomatch z) (fun _ z => nomatch z) (fun C' e => by cases e; exact ⟨ea, rfl, z⟩)
theorem Loc.owned {H0 H : Hp} {σ : L2.St} {δ : List Sl} {S : Addr → Bool} (L : Loc K H0 σ H δ S) : ∀ (j : Nat) (ds : List PyData), δ[j]? = some (Sl.own ds) → ∃ a, σ[j]? = some (some (V.ref a)) ∧ H a ≠ none := fun j ds e => by
  obtain ⟨a, xs, e1, _, e3, _⟩ := L.own j ds e
  exact ⟨a, e1, by rw [e3]; exact (fun z => nomatch z)⟩
def fSet (i : Nat) (f : List Sl → M Rz) (δ : List Sl) : Option Fl := bS (f δ) fun x => match slotOf x with | some s => some (.next (δ.set i s)) | none => none
theorem rd_set {i : Nat} {te : TE} {f : List Sl → M Rz} (h : RdE K E te f) : RdS K E (tAsg te (gName i)) (fSet i f) := by
  intro H0 σ H δ S D fl L e q
  rcases bS_inv e with ⟨x, h1, e⟩ | ⟨C, h1, rfl⟩
  · refine h H0 σ H δ S _ _ L h1 fun v H1 S1 g1 rv => ?_
    split at e
    · rename_i s e2
      cases e
      exact q _ H1 S1 ((L.ext g1).slot L.owned (L.kids g1) rv e2)
    · cases e
  · exact h H0 σ H δ S _ _ L h1 (exc_ext L q)
theorem ds_set (i : Nat) {x : Str} {e : Expr} {f : List Sl → M Rz} {pos pos' : Pos} (nd : X.N.Nodup) (he : DE X E e f) (hi : X.N[i]? = some x := by rfl) (hx : L2.Loc X.env.scope x := by first | exact Or.inl rfl | exact Or.inr rfl) (hs : swapsWith e (some (.Name x pos')) pos.line X.env = pure false := by rfl) (hf : X.fn x = true ∨ X.env.scope.names.lookup x = some .local := by first | exact .inl rfl | exact .inr rfl) :
    DS X E (.Assign [.Name x pos'] e pos) (fSet i f) := let ⟨_, a, b⟩ := he; ⟨_, ps_set nd hi hx a hs hf, rd_set b⟩
/-! ### targets -/
def RdG (K : PySem.W.Frag) (t : TG) (g : PyData → List Sl → Option (List Sl)) : Prop :=
  ∀ (H0 : Hp) (σ : L2.St) (H : Hp) (δ δ' : List Sl) (S : Addr → Bool) (v : V) (d : PyData) (Q : L2.St → Hp → Prop), Loc K H0 σ H δ S → DV K (hid H S) v d → g d δ = some δ' → (∀ σ', Loc K H0 σ' H δ' S → Q σ' H) → t v σ H Q
def DG (X : Cx) (tg : Expr) (g : PyData → List Sl → Option (List Sl)) : Prop := ∃ t, PG X tg t ∧ RdG X.K t g
def tName (i : Nat) (d : PyData) (δ : List Sl) : Option (List Sl) := some (δ.set i (.dat d))
theorem dg_name (i : Nat) {x : Str} {pos : Pos} (nd : X.N.Nodup) (hi : X.N[i]? = some x := by rfl) (hx : L2.Loc X.env.scope x := by first | exact Or.inl rfl | exact Or.inr rfl) (hf : X.fn x = true ∨ X.env.scope.names.lookup x = some .local := by first | exact .inl rfl | exact .inr rfl) : DG X (.Name x pos) (tName i) :=
  ⟨_, pg_name nd hi hx hf, fun H0 σ H δ δ' S v d Q L dv h q => by
    cases h
    exact q _ (L.put (fun _ z => nomatch z) (fun d' e => by cases e; exact ⟨v, rfl, dv⟩) (fun _ z => nomatch z))⟩
def RdGs (K : PySem.W.Frag) (t : TGs) (g : List PyData → List Sl → Option (List Sl)) : Prop :=
  ∀ (H0 : Hp) (σ : L2.St) (H : Hp) (δ δ' : List Sl) (S : Addr → Bool) (vs : List V) (ds : List PyData) (Q : L2.St → Hp → Prop), Loc K H0 σ H δ S → DVs K (hid H S) vs ds → g ds δ = some δ' → (∀ σ', Loc K H0 σ' H δ' S → Q σ' H) → t vs σ H Q
def DGs (X : Cx) (tg : List Expr) (g : List PyData → List Sl → Option (List Sl)) : Prop := ∃ t, PGs X tg t ∧ RdGs X.K t g
def tsNil (ds : List PyData) (δ : List Sl) : Option (List Sl) := match ds with | [] => some δ | _ => none
def tsCons (g : PyData → List Sl → Option (List Sl)) (h : List PyData → List Sl → Option (List Sl)) (ds : List PyData) (δ : List Sl) : Option (List Sl) :=
  match ds with
  | d :: r => (match g d δ with | some δ' => h r δ' | none => none)
  | [] => none
def tTupT (g : List PyData → List Sl → Option (List Sl)) (k : Nat) (d : PyData) (δ : List Sl) : Option (List Sl) :=
  match d with
  | .tuple ds => if ds.length = k then g ds δ else none
  | _ => none
def fAsg (g : PyData → List Sl → Option (List Sl)) (f : List Sl → M Rz) (δ : List Sl) : Option Fl := bS (f δ) fun x => match datOf x with | some d => (match g d δ with | some δ' => some (.next δ') | none => none) | none => none
/-- a, b = x, y -/
def fPar (i j : Nat) (fa : List Sl → M (List Rz)) (δ : List Sl) : Option Fl := bS (fa δ) fun zs => match zs with | [x, y] => (match datOf x, datOf y with | some d, some e => some (.next ((δ.set i (.dat d)).set j (.dat e))) | _, _ => none) | _ => none
theorem ds_par (i j : Nat) {n : Nat} {x y : Str} {a b : Expr} {fa : List Sl → M (List Rz)} {px py pt : Pos} {kt k2 pt2} {pos : Pos} (Z : Fit n X E) (ha : DA X E [a, b] fa)
    (hp : ∀ t, PA X [a, b] t → PS X (.Assign [.Tuple [.Name x px, .Name y py] kt pt] (.Tuple [a, b] k2 pt2) pos) (tPar i j t)) : DS X E (.Assign [.Tuple [.Name x px, .Name y py] kt pt] (.Tuple [a, b] k2 pt2) pos) (fPar i j fa) := by
  obtain ⟨t, a1, b1⟩ := ha
  refine ⟨_, hp t a1, fun H0 σ H δ S D fl L h q => ?_⟩
  rcases bS_inv h with ⟨zs, h1, h⟩ | ⟨C, h1, rfl⟩
  · refine b1 H0 σ H δ S _ _ L h1 fun vs H1 S1 g1 rs => ?_
    split at h
    · rename_i zx zy
      split at h
      · rename_i d e e1 e2
        cases h
        obtain ⟨v, w, rfl, r1, r2⟩ := rvs2 rs
        have L1 := L.ext g1
        have L2 := L1.put (i := i) (o := some v) (s := .dat d) (fun _ z => nomatch z) (fun d' e => by cases e; exact ⟨v, rfl, datOf_ok L1 r1 e1⟩) (fun _ z => nomatch z)
        have L3 := L2.put (i := j) (o := some w) (s := .dat e) (fun _ z => nomatch z) (fun d' e => by cases e; exact ⟨w, rfl, datOf_ok L1 r2 e2⟩) (fun _ z => nomatch z)
        exact ⟨v, w, rfl, q _ H1 S1 L3⟩
      · cases h
    · cases h
  · exact b1 H0 σ H δ S _ _ L h1 (exc_ext L q)
/-! ### return, raise, an expression alone -/
def outOf (x : Rz) : Option Out :=
  match x with
  | .dat d => some (.val d)
  | .use d => some (.val d)
  | .new ds => if noLs ds = true then some (.fresh ds) else some (.lsts ds)
  | .var ds => if noLs ds = true then some (.fresh ds) else some (.lsts ds)
  | .exc _ => none
def fRet (f : List Sl → M Rz) (δ : List Sl) : Option Fl := bS (f δ) fun x => match outOf x with | some o => some (.ret o) | none => none
theorem ds_ret {e : Expr} {f : List Sl → M Rz} {pos : Pos} (he : DE X E e f) : DS X E (.Return (some e) pos) (fRet f) := by
  obtain ⟨t, a, b⟩ := he
  refine ⟨_, ps_ret a, fun H0 σ H δ S D fl L h q => ?_⟩
  rcases bS_inv h with ⟨x, h1, h⟩ | ⟨C, h1, rfl⟩
  · refine b H0 σ H δ S _ _ L h1 fun v H1 S1 g1 rv => ?_
    have L1 := L.ext g1
    split at h
    · rename_i o e1
      cases h
      unfold outOf at e1
      split at e1
      · cases e1; exact q v H1 L1.old (DV.same hid_up rv)
      · cases e1; exact q v H1 L1.old rv
      · split at e1
        · rename_i k
          cases e1
          obtain ⟨a, xs, rfl, z, n, ha, hx⟩ := rv
          exact q a xs H1 L1.old (L1.frs a z) ha (DVs.same hid_up hx) k
        · cases e1
          obtain ⟨a, xs, rfl, z, n, ha, hx⟩ := rv
          exact q a xs H1 L1.old (L1.frs a z) ha (DVs.same (wo_hid z) hx)
      · split at e1
        · rename_i k
          cases e1
          obtain ⟨a, xs, rfl, z, ha, hx⟩ := rv
          exact q a xs H1 L1.old (L1.frs a z) ha (DVs.same hid_up hx) k
        · cases e1
          obtain ⟨a, xs, rfl, z, ha, hx⟩ := rv
          exact q a xs H1 L1.old (L1.frs a z) ha (DVs.same (wo_hid z) hx)
      · cases e1
    · cases h
  · exact b H0 σ H δ S _ _ L h1 (exc_ext L q)
def fRetN (_ : List Sl) : Option Fl := some (.ret (.val .none))
def fDrop (f : List Sl → M Rz) (δ : List Sl) : Option Fl := bS (f δ) fun _ => some (.next δ)
theorem ds_expr {e : Expr} {f : List Sl → M Rz} {pos : Pos} (he : DE X E e f) (hs : swapsWith e none pos.line X.env = pure false := by rfl) : DS X E (.Expr e pos) (fDrop f) := by
  obtain ⟨t, a, b⟩ := he
  refine ⟨_, ps_expr a hs, fun H0 σ H δ S D fl L h q => ?_⟩
  rcases bS_inv h with ⟨x, h1, h⟩ | ⟨C, h1, rfl⟩
  · cases h
    exact b H0 σ H δ S _ _ L h1 fun v H1 S1 g1 rv => q σ H1 S1 (L.ext g1)
  · exact b H0 σ H δ S _ _ L h1 (exc_ext L q)
def fRaise (C : Ex) (fa : List Sl → M (List Rz)) (δ : List Sl) : Option Fl := bS (fa δ) fun zs => if zs.length ≤ sizeLine then some (.exc C) else none
theorem RVs.len {Hs H : Hp} {S : Addr → Bool} : ∀ {vs : List V} {zs : List Rz}, RVs K Hs H S vs zs → vs.length = zs.length
  | _, _, .nil => rfl
  | _, _, .cons _ t => by rw [List.length_cons, List.length_cons, RVs.len t]
theorem ds_raise (C : Ex) {n : Nat} {x : Str} {e : Expr} {es : List Expr} {fa : List Sl → M (List Rz)} {np cpos pos : Pos} (Z : Fit n X E) (hm : X.mg x = some (.ref (ecx C)))
    (q : PySem.W.excIn X.K (ecx C) [.type "ValueError", .type "Exception", .type "BaseException", .type "object"] "ValueError.__new__" = true) (ha : DA X E (e :: es) fa)
    (hg : Gl X x := by rfl) (hdb : (x == ("__debug__" : Str)) = false := by decide)
    (he : starEach (e :: es) X.env = (false, eval e X.env) :: starEach es X.env := by rfl) (hpl : (backTo cpos (starEach es X.env)).any (·.1) = false := by rfl) :
    DS X E (.Raise (some (.Call (.Name x np) (e :: es) [] cpos)) none pos) (fRaise C fa) := by
  obtain ⟨t, a, b⟩ := ha
  refine ⟨_, ps_raise Z.ra Z.cm hm q a hg hdb he hpl, fun H0 σ H δ S D fl L h q => ?_⟩
  rcases bS_inv h with ⟨zs, h1, h⟩ | ⟨C', h1, rfl⟩
  · refine b H0 σ H δ S _ _ L h1 fun vs H1 S1 g1 rs => ?_
    split at h
    · rename_i hl
      cases h
      exact ⟨by rw [RVs.len rs]; exact hl, q H1 (L.old.trans g1.up)⟩
    · cases h
  · exact b H0 σ H δ S _ _ L h1 (exc_ext L q)
def fIfS (c : List Sl → M Bool) (f g : List Sl → Option Fl) (δ : List Sl) : Option Fl := bS (c δ) fun b => if b = true then f δ else g δ
theorem ds_if {c : Expr} {a b : List Stmt} {fc : List Sl → M Bool} {f g : List Sl → Option Fl} {pos : Pos} (hc : DT X E c fc) (ha : DSs X E a f) (hb : DSs X E b g) : DS X E (.If c a b pos) (fIfS fc f g) := by
  obtain ⟨tc, c1, c2⟩ := hc
  obtain ⟨t, a1, a2⟩ := ha
  obtain ⟨u, b1, b2⟩ := hb
  refine ⟨_, ps_if c1 a1 b1, fun H0 σ H δ S D fl L h q => ?_⟩
  rcases bS_inv h with ⟨k, h1, h⟩ | ⟨C, h1, rfl⟩
  · refine c2 H0 σ H δ S _ _ L h1 fun H1 S1 g1 => ?_
    cases k with
    | true => exact iteT (a2 H0 σ H1 δ S1 D fl (L.ext g1) h q)
    | false => exact iteF (b2 H0 σ H1 δ S1 D fl (L.ext g1) h q)
  · exact c2 H0 σ H δ S _ _ L h1 (exc_ext L q)
/-! ### while -/
def whN (c : List Sl → M Bool) (b : List Sl → Option Fl) : Nat → List Sl → Option Fl
  | 0, _ => none
  | n + 1, δ => bS (c δ) fun k => if k = true then (match b δ with | some (.next δ') => whN c b n δ' | some (.cnt δ') => whN c b n δ' | some (.brk δ') => some (.next δ') | r => r) else some (.next δ)
theorem whN_mono {c : List Sl → M Bool} {b : List Sl → Option Fl} {r : Fl} : ∀ {n m : Nat} {δ : List Sl}, n ≤ m → whN c b n δ = some r → whN c b m δ = some r
  | 0, _, _, _, h => nomatch h
  | n + 1, 0, _, l, _ => absurd l (by omega)
  | n + 1, m + 1, δ, l, h => by
    unfold whN at h ⊢
    rcases bS_inv h with ⟨k, h1, h⟩ | ⟨C, h1, rfl⟩
    · rw [h1]
      show (if k = true then _ else _) = _
      cases k with
      | false => exact h
      | true =>
        rw [if_pos rfl] at h ⊢
        split at h
        · exact whN_mono (by omega) h
        · exact whN_mono (by omega) h
        · exact h
        · exact h
    · rw [h1]; rfl
open Classical in
noncomputable def fWh (c : List Sl → M Bool) (b : List Sl → Option Fl) (δ : List Sl) : Option Fl := if h : ∃ n r, whN c b n δ = some r then whN c b (Classical.choose h) δ else none
theorem fWh_of {c : List Sl → M Bool} {b : List Sl → Option Fl} {n : Nat} {δ : List Sl} {r : Fl} (h : whN c b n δ = some r) : fWh c b δ = some r := by
  unfold fWh
  have hx : ∃ n r, whN c b n δ = some r := ⟨n, r, h⟩
  rw [dif_pos hx]
  obtain ⟨r', h'⟩ := Classical.choose_spec hx
  have e1 := whN_mono (Nat.le_max_left n (Classical.choose hx)) h
  have e2 := whN_mono (Nat.le_max_right n (Classical.choose hx)) h'
  rw [e1] at e2; cases e2
  exact h'
theorem fWh_inv {c : List Sl → M Bool} {b : List Sl → Option Fl} {δ : List Sl} {r : Fl} (h : fWh c b δ = some r) : ∃ n, whN c b n δ = some r := by
  unfold fWh at h
  split at h
  · exact ⟨_, h⟩
  · cases h
theorem ds_while {n : Nat} {c : Expr} {body : List Stmt} {fc : List Sl → M Bool} {fb : List Sl → Option Fl} {pos : Pos} (Z : Fit n X E) (hc : DT X E c fc) (hb : DSs X E body fb) : DS X E (.While c body [] pos) (fWh fc fb) := by
  obtain ⟨tc, c1, c2⟩ := hc
  obtain ⟨t, b1, b2⟩ := hb
  refine ⟨_, ps_while Z.po c1 b1, fun H0 σ H δ S D fl L h q => ?_⟩
  obtain ⟨m, hm⟩ := fWh_inv h
  refine ⟨fun m σ H => ∃ δ S, Loc X.K H0 σ H δ S ∧ whN fc fb m δ = some fl, ⟨m, δ, S, L, hm⟩, ?_⟩
  rintro m σ H ⟨δ, S, L, hm⟩
  cases m with
  | zero => exact nomatch hm
  | succ m =>
    unfold whN at hm
    rcases bS_inv hm with ⟨k, h1, h⟩ | ⟨C, h1, rfl⟩
    · refine c2 H0 σ H δ S _ _ L h1 fun H1 S1 g1 => ?_
      have L1 := L.ext g1
      cases k with
      | false =>
        cases h
        exact iteF (q σ H1 S1 L1)
      | true =>
        rw [if_pos rfl] at h ⊢
        refine ⟨fun σ' H' => ∃ δ' S', Loc X.K H0 σ' H' δ' S' ∧ whN fc fb m δ' = some fl, fun σ' H' z => ⟨m, Nat.lt_succ_self m, z⟩, ?_⟩
        split at h
        · rename_i δ' e
          exact b2 H0 σ H1 δ S1 _ _ L1 e fun σ' H' S' L' => ⟨δ', S', L', h⟩
        · rename_i δ' e
          exact b2 H0 σ H1 δ S1 _ _ L1 e fun σ' H' S' L' => ⟨δ', S', L', h⟩
        · rename_i δ' e
          cases h
          exact b2 H0 σ H1 δ S1 _ _ L1 e fun σ' H' S' L' => q σ' H' S' L'
        · rename_i r e1 e2 e3
          refine b2 H0 σ H1 δ S1 _ fl L1 h ?_
          cases fl with
          | next δ' => exact absurd h (e1 δ')
          | cnt δ' => exact absurd h (e2 δ')
          | brk δ' => exact absurd h (e3 δ')
          | ret o => exact q
          | exc C => exact q
    · exact c2 H0 σ H δ S _ _ L h1 (exc_ext L q)
end
end D3

set_option Elab.async false
set_option linter.all false
set_option maxRecDepth 100000
set_option maxHeartbeats 4000000
namespace D3
open PySem PySem.Spec PyProof.Rows L2 L3
variable [Ecx]
section
variable {X : Cx} {E : XK} {K : PySem.W.Frag}
/-! ### subscripts, unary minus -/
theorem de_ix {a b : Expr} {fa fb : List Sl → M Rz} {pos : Pos} (ha : DE X E a fa) (hb : DE X E b fb) (hs : PlainIx b := by exact (fun _ _ => rfl)) : DE X E (.Subscript a b pos) (f2 gIx fa fb) :=
  let ⟨_, a1, a2⟩ := ha; let ⟨_, b1, b2⟩ := hb; ⟨_, pe_ix ix_seq a1 b1 hs, rd2 od_ix a2 b2⟩
def negOf (x : Rz) : M Rz :=
  match x.d? with
  | some (.int i) => okM (.dat (.int (-i)))
  | _ => none
def fU (g : Rz → M Rz) (f : List Sl → M Rz) (δ : List Sl) : M Rz := bnd (f δ) g
theorem de_neg {a : Expr} {fa : List Sl → M Rz} {pos : Pos} (ha : DE X E a fa) : DE X E (.UnaryOp .USub a pos) (fU negOf fa) := by
  obtain ⟨t, a1, a2⟩ := ha
  refine ⟨_, pe_un un_neg a1, fun H0 σ H δ S Q z L h q => ?_⟩
  rcases bnd_inv h with ⟨x, h1, h⟩ | ⟨C, h1, rfl⟩
  · refine a2 H0 σ H δ S _ _ L h1 fun v H1 S1 g1 rv => ?_
    unfold negOf at h
    split at h
    · rename_i i e
      cases h
      have d := rv.full e
      cases d
      exact ⟨i, rfl, q _ H1 S1 g1 (.int _)⟩
    · cases h
  · exact a2 H0 σ H δ S _ _ L h1 q
/-! ### slices -/
def cutD (ds : List PyData) (lo hi : Option Int) : List PyData := (ds.drop (HT.sIx ds.length 0 lo)).take (HT.sIx ds.length ds.length hi - HT.sIx ds.length 0 lo)
theorem DVs.cut {H : Hp} {xs : List V} {ds : List PyData} (lo hi : Option Int) (h : DVs K H xs ds) : DVs K H (cutV xs lo hi) (cutD ds lo hi) := by
  unfold cutV cutD
  rw [DVs.len h]
  exact DVs.take _ (DVs.drop _ h)
def RdO (K : PySem.W.Frag) (E : XK) (t : TO) (f : List Sl → M (Option Int)) : Prop :=
  ∀ (H0 : Hp) (σ : L2.St) (H : Hp) (δ : List Sl) (S : Addr → Bool) (Q : Option Int → Hp → Prop) (r : Res (Option Int)), Loc K H0 σ H δ S → f δ = some r →
    (match r with | .ok z => ∀ H' S', Ext H S H' S' → Q z H' | .err C => ∀ H' S', Ext H S H' S' → E (.ref (ecx C)) none H') → t σ H Q
def DO (X : Cx) (E : XK) (e : Option Expr) (f : List Sl → M (Option Int)) : Prop := ∃ t, PO X e t ∧ RdO X.K E t f
def fNoP (_ : List Sl) : M (Option Int) := okM none
def partOf (x : Rz) : M (Option Int) :=
  match x.d? with
  | some (.int i) => okM (some i)
  | _ => none
def fPart (f : List Sl → M Rz) (δ : List Sl) : M (Option Int) := bnd (f δ) partOf
theorem do_none : DO X E none fNoP := ⟨_, po_none, fun H0 σ H δ S Q r L h q => by cases h; exact q H S .refl⟩
theorem do_some {e : Expr} {f : List Sl → M Rz} (h : DE X E e f) : DO X E (some e) (fPart f) := by
  obtain ⟨t, a, b⟩ := h
  refine ⟨_, po_some a, fun H0 σ H δ S Q r L h q => ?_⟩
  rcases bnd_inv h with ⟨x, h1, h⟩ | ⟨C, h1, rfl⟩
  · refine b H0 σ H δ S _ _ L h1 fun v H1 S1 g1 rv => ?_
    unfold partOf at h
    split at h
    · rename_i i e
      cases h
      have d := rv.full e
      cases d
      exact ⟨i, rfl, q H1 S1 g1⟩
    · cases h
  · exact b H0 σ H δ S _ _ L h1 q
def SlD (K : PySem.W.Frag) (E : XK) (r : V → Option Int → Option Int → Hp → VK → Prop) (g : Rz → Option Int → Option Int → M Rz) : Prop :=
  ∀ (H0 : Hp) (σ : L2.St) (H : Hp) (δ : List Sl) (S : Addr → Bool) (Hs : Hp) (v : V) (x : Rz) (lo hi : Option Int) (z : Res Rz) (Q : VK), Loc K H0 σ H δ S → RV K Hs H S v x → g x lo hi = some z → EndE K E H S Q z → r v lo hi H Q
def fSl (g : Rz → Option Int → Option Int → M Rz) (f : List Sl → M Rz) (fl fh : List Sl → M (Option Int)) (δ : List Sl) : M Rz := bnd (f δ) fun x => bnd (fl δ) fun lo => bnd (fh δ) fun hi => g x lo hi
theorem de_slice {e : Expr} {lo hi : Option Expr} {p2 pos : Pos} {r : V → Option Int → Option Int → Hp → VK → Prop} {g : Rz → Option Int → Option Int → M Rz} {f : List Sl → M Rz} {fl fh : List Sl → M (Option Int)} (hr : SlR X r) (hd : SlD X.K E r g) (he : DE X E e f) (hl : DO X E lo fl) (hh : DO X E hi fh) :
    DE X E (.Subscript e (.Slice lo hi none p2) pos) (fSl g f fl fh) := by
  obtain ⟨t, a1, a2⟩ := he
  obtain ⟨u, b1, b2⟩ := hl
  obtain ⟨w, c1, c2⟩ := hh
  refine ⟨_, pe_slice hr a1 b1 c1, fun H0 σ H δ S Q z L h q => ?_⟩
  rcases bnd_inv h with ⟨x, h1, h⟩ | ⟨C, h1, rfl⟩
  · refine a2 H0 σ H δ S _ _ L h1 fun v H1 S1 g1 rv => ?_
    rcases bnd_inv h with ⟨l, h2, h⟩ | ⟨C, h2, rfl⟩
    · refine b2 H0 σ H1 δ S1 _ _ (L.ext g1) h2 fun H2 S2 g2 => ?_
      rcases bnd_inv h with ⟨k, h3, h⟩ | ⟨C, h3, rfl⟩
      · refine c2 H0 σ H2 δ S2 _ _ ((L.ext g1).ext g2) h3 fun H3 S3 g3 => ?_
        exact hd H0 σ H3 δ S3 H v x l k z Q (((L.ext g1).ext g2).ext g3) ((rv.ext g2).ext g3) h (q.ext ((g1.trans g2).trans g3))
      · exact c2 H0 σ H2 δ S2 _ _ ((L.ext g1).ext g2) h3 fun H' S' g => q H' S' ((g1.trans g2).trans g)
    · exact b2 H0 σ H1 δ S1 _ _ (L.ext g1) h2 fun H' S' g => q H' S' (g1.trans g)
  · exact a2 H0 σ H δ S _ _ L h1 q
def gSlL (x : Rz) (lo hi : Option Int) : M Rz :=
  match x.d? with
  | some (.list ds) => if kept x ds = true then okM (.new (cutD ds lo hi)) else none
  | _ => none
theorem sd_list : SlD K E (rSlL K) gSlL := by
  intro H0 σ H δ S Hs v x lo hi z Q L rv h q
  unfold gSlL at h
  split at h
  · rename_i ds e
    split at h
    · rename_i k
      cases h
      obtain ⟨a, xs, rfl, hs, hx, hk⟩ := seq_list L rv e
      exact ⟨a, xs, rfl, hs, fun p hp => q _ _ (ins S p) (Ext.ins hp) ⟨p, _, rfl, ins_same, hp, upd_same, by rw [hid_ins hp]; exact DVs.cut lo hi (hk k)⟩⟩
    · cases h
  · cases h
/-! ### own defs -/
def EndF (K : PySem.W.Frag) (E : XK) (H : Hp) (Q : VK) : Res Out → Prop
  | .ok o => RetOk K H Q o
  | .err C => ∀ H', Same H H' → E (.ref (ecx C)) none H'
def spD (K : PySem.W.Frag) (n : Nat) (f : List PyData → M Out) : Sp := fun vs H Q E => ∃ ds o, vs.length = n ∧ DVs K H vs ds ∧ f ds = some o ∧ EndF K E H Q o
def dsOf : List Rz → Option (List PyData)
  | [] => some []
  | x :: xs => match x.d?, dsOf xs with
    | some d, some ds => some (d :: ds)
    | _, _ => none
theorem dsOf_ok {Hs H : Hp} {S : Addr → Bool} : ∀ {vs : List V} {zs : List Rz} {ds : List PyData}, RVs K Hs H S vs zs → dsOf zs = some ds → DVs K H vs ds
  | _, _, _, .nil, h => by cases h; exact .nil
  | _, _, _, .cons r t, h => by
    unfold dsOf at h
    split at h
    · rename_i d ds e1 e2
      cases h
      exact .cons (r.full e1) (dsOf_ok t e2)
    · cases h
def outZ : Out → Rz
  | .val d => if noL d = true then .dat d else .use d
  | .fresh ds => .new ds
  | .mine d => .dat d
  | .two ds es => .dat (.tuple [.list ds, .list es])
  | .lsts ds => .use (.list ds)
  | .newls ds => .new ds
def gF (n : Nat) (f : List PyData → M Out) (zs : List Rz) : M Rz :=
  match dsOf zs with
  | some ds => if ds.length = n then bnd (f ds) fun o => okM (outZ o) else none
  | none => none
theorem cd_fn {n : Nat} {f : List PyData → M Out} : CallD K E (fun vs H Q => spD K n f (vs ++ []) H Q E) (gF n f) := by
  intro H0 σ H δ S Hs vs zs z Q L rs h q
  unfold gF at h
  split at h
  · rename_i ds e
    split at h
    · rename_i hn
      have hx := dsOf_ok rs e
      rw [List.append_nil]
      rcases bnd_inv h with ⟨o, h1, h⟩ | ⟨C, h1, rfl⟩
      · cases h
        refine ⟨ds, _, by rw [DVs.len hx]; exact hn, hx, h1, ?_⟩
        cases o with
        | val d =>
          intro v H' g dv
          have gx : Ext H S H' S := Ext.same g
          refine q v H' S gx ?_
          unfold outZ
          dsimp only
          split
          · rename_i k; exact DV.ts (L.ext gx).tk dv k
          · exact dv
        | two xs' ys' =>
          intro c a b xs ys H' g n1 n2 n3 hc ha hb dx dy kx ky
          have gx : Ext H S H' S := Ext.same g
          have off : ∀ p, H p = none → S p = false := fun p hp => by
            cases sp : S p with
            | true => obtain ⟨zs, hz⟩ := L.lst p sp; rw [hp] at hz; cases hz
            | false => rfl
          exact q _ H' S gx (.tup (SqT.of (by rw [hid_f (off c n1)]; exact hc)) (.cons (.lst (SqL.of (by rw [hid_f (off a n2)]; exact ha)) (DVs.ts (L.ext gx).tk dx kx)) (.cons (.lst (SqL.of (by rw [hid_f (off b n3)]; exact hb)) (DVs.ts (L.ext gx).tk dy ky)) .nil)))
        | lsts es =>
          intro a xs H' g n ha hx
          exact q _ H' S (Ext.same g) (DV.lst (SqL.of ha) (DVs.same wo_up hx))
        | newls es =>
          intro a xs H' g n ha hx
          have sub : Same (hid H S) (hid H' (ins S a)) := fun b o e => by
            have hb : b ≠ a := by intro z; subst z; have := hid_up _ _ e; rw [n] at this; cases this
            cases sb : S b with
            | true => rw [hid_t sb] at e; cases e
            | false => rw [hid_f sb] at e; rw [hid_f (by rw [ins_ne hb]; exact sb)]; exact g _ _ e
          have gx : Ext H S H' (ins S a) := ⟨g, sub, fun b hb => by
            unfold ins; split
            · rfl
            · exact hb, fun b hb => by
            by_cases c : b = a
            · subst c; exact .inr ⟨n, xs, ha⟩
            · rw [ins_ne c] at hb; exact .inl hb⟩
          refine q _ H' (ins S a) gx ⟨a, xs, rfl, ins_same, n, ha, DVs.same (fun b o e => ?_) hx⟩
          have hb : b ≠ a := by intro z; subst z; have := newL_up _ _ e; unfold wo at this; rw [if_pos rfl] at this; cases this
          cases sb : S b with
          | true =>
            obtain ⟨ys, hy⟩ := L.lst b sb
            unfold newL wo at e
            rw [hy] at e
            dsimp only at e
            rw [if_neg hb, g b _ hy] at e
            cases e
          | false => rw [hid_f (by rw [ins_ne hb]; exact sb)]; exact wo_up _ _ (newL_up _ _ e)
        | mine d =>
          intro v H' g dv
          refine q v H' S (Ext.same g) (DV.same (fun b o e => ?_) dv)
          cases sb : S b with
          | true =>
            obtain ⟨xs, hb⟩ := L.lst b sb
            unfold newL at e
            rw [hb] at e
            dsimp only at e
            rw [g b _ hb] at e
            cases e
          | false => rw [hid_f sb]; exact newL_up b o e
        | fresh es =>
          intro a xs H' g ha hl dv k
          have sub : Same (hid H S) (hid H' (ins S a)) := fun b o e => by
            have hb : b ≠ a := by intro z; subst z; have := hid_up _ _ e; rw [ha] at this; cases this
            cases sb : S b with
            | true => rw [hid_t sb] at e; cases e
            | false => rw [hid_f sb] at e; rw [hid_f (by rw [ins_ne hb]; exact sb)]; exact g _ _ e
          have gx : Ext H S H' (ins S a) := ⟨g, sub, fun b hb => by
            unfold ins; split
            · rfl
            · exact hb, fun b hb => by
            by_cases c : b = a
            · subst c; exact .inr ⟨ha, xs, hl⟩
            · rw [ins_ne c] at hb; exact .inl hb⟩
          exact q _ H' (ins S a) gx ⟨a, xs, rfl, ins_same, ha, hl, DVs.ts (L.ext gx).tk dv k⟩
      · refine ⟨ds, _, by rw [DVs.len hx]; exact hn, hx, h1, fun H' g => q H' S (Ext.same g)⟩
    · cases h
  · cases h
/-- f(e, ..) -/
theorem de_cal {k n m : Nat} {x : Str} {ps : List Str} {f : List PyData → M Out} {p pos : Pos} {e : Expr} {es : List Expr} {fa : List Sl → M (List Rz)} (Z : Fit n X E) (C : Cal X.prog X.w X.K X.mg X.base (CXR X.prog X.w) k x ps (spD X.K m f)) (ha : DA X E (e :: es) fa) (hn : k ≤ n := by decide)
    (hg : Gl X x := by rfl) (hdb : (x == ("__debug__" : Str)) = false := by decide)
    (he : starEach (e :: es) X.env = (false, eval e X.env) :: starEach es X.env := by rfl) (hpl : (backTo pos (starEach es X.env)).any (·.1) = false := by rfl) :
    DE X E (.Call (.Name x p) (e :: es) [] pos) (fCall (gF m f) fa) :=
  let ⟨_, a, b⟩ := ha; ⟨_, pe_calX C Z.rm Z.hx a hn hg hdb he hpl, rd_call cd_fn b⟩
/-! ### for -/
structure ItOk (K : PySem.W.Frag) (J : It) (Hh : Hp) (items : List PyData) : Prop where
  go : ∀ i H, Same Hh H → i < items.length → J.go i H
  yld : ∀ i H x H' d, Same Hh H → items[i]? = some d → J.yld i H x H' → H' = H ∧ DV K Hh x d
  stop : ∀ i H, Same Hh H → items.length ≤ i → J.stop i H
theorem ItOk.up {J : It} {Hh Hg : Hp} {items : List PyData} (I : ItOk K J Hh items) (g : Same Hh Hg) : ItOk K J Hg items :=
  ⟨fun i H s => I.go i H (g.trans s), fun i H x H' d s e y => let ⟨a, b⟩ := I.yld i H x H' d (g.trans s) e y; ⟨a, DV.same g b⟩, fun i H s => I.stop i H (g.trans s)⟩
def RdI (K : PySem.W.Frag) (E : XK) (wi : TI) (f : List Sl → M (List PyData)) : Prop :=
  ∀ (H0 : Hp) (σ : L2.St) (H : Hp) (δ : List Sl) (S : Addr → Bool) (R : It → Hp → Prop) (r : Res (List PyData)), Loc K H0 σ H δ S → f δ = some r →
    (match r with | .ok items => ∀ J H' S', Ext H S H' S' → ItOk K J (hid H' S') items → R J H' | .err C => ∀ H' S', Ext H S H' S' → E (.ref (ecx C)) none H') → wi σ H R
def DI (X : Cx) (E : XK) (tg iter : Expr) (f : List Sl → M (List PyData)) : Prop := ∃ wi, PI X tg iter wi ∧ RdI X.K E wi f
theorem it_list {Hh : Hp} {a : Addr} {xs : List V} {ds : List PyData} (hs : SqL K Hh a xs) (hx : DVs K Hh xs ds) : ItOk K (Itl K a) Hh ds := by
  refine ⟨fun i H g hi => ?_, fun i H x H' d g e y => ?_, fun i H g hi => ⟨xs, g.seq hs, by rw [DVs.len hx]; exact hi⟩⟩
  · obtain ⟨v, e, _⟩ := DVs.get hx (List.getElem?_eq_getElem hi)
    exact ⟨xs, v, g.seq hs, e⟩
  · obtain ⟨rfl, y⟩ := y
    obtain ⟨v, e1, dv⟩ := DVs.get hx e
    have e2 := y xs (g.seq hs)
    rw [e1] at e2; cases e2
    exact ⟨rfl, dv⟩
theorem it_tup {Hh : Hp} {a : Addr} {xs : List V} {ds : List PyData} (hs : SqT K Hh a xs) (hx : DVs K Hh xs ds) : ItOk K (Itt K a) Hh ds := by
  refine ⟨fun i H g hi => ?_, fun i H x H' d g e y => ?_, fun i H g hi => ⟨xs, SameT g hs, by rw [DVs.len hx]; exact hi⟩⟩
  · obtain ⟨v, e, _⟩ := DVs.get hx (List.getElem?_eq_getElem hi)
    exact ⟨xs, v, SameT g hs, e⟩
  · obtain ⟨rfl, y⟩ := y
    obtain ⟨v, e1, dv⟩ := DVs.get hx e
    have e2 := y xs (SameT g hs)
    rw [e1] at e2; cases e2
    exact ⟨rfl, dv⟩
/-- a list that is walked: a plain one, or a new one that is held by nothing else -/
def itemsL (x : Rz) : M (List PyData) :=
  match x with
  | .dat (.list ds) => okM ds
  | .new ds => okM ds
  | _ => none
def itemsT (x : Rz) : M (List PyData) :=
  match x with
  | .dat (.tuple ds) => okM ds
  | .use (.tuple ds) => if noLs ds = true then okM ds else none
  | _ => none
def fI (g : Rz → M (List PyData)) (f : List Sl → M Rz) (δ : List Sl) : M (List PyData) := bnd (f δ) g
theorem di_tup {tg e : Expr} {f : List Sl → M Rz} (h : DE X E e f) : DI X E tg e (fI itemsT f) := by
  obtain ⟨t, a, b⟩ := h
  refine ⟨_, pi_tup a, fun H0 σ H δ S R r L h q => ?_⟩
  rcases bnd_inv h with ⟨x, h1, h⟩ | ⟨C, h1, rfl⟩
  · refine b H0 σ H δ S _ _ L h1 fun v H1 S1 g1 rv => ?_
    unfold itemsT at h
    split at h
    · rename_i ds
      cases h
      have rv' : DV X.K (hid H1 S1) v (.tuple ds) := rv
      cases rv' with
      | tup hs hx => exact ⟨_, rfl, ⟨_, SameT hid_up hs⟩, q _ H1 S1 g1 (it_tup hs hx)⟩
    · rename_i ds
      split at h
      · rename_i k
        cases h
        have rv' : DV X.K H1 v (.tuple ds) := rv
        cases rv' with
        | tup hs hx => exact ⟨_, rfl, ⟨_, hs⟩, q _ H1 S1 g1 (it_tup ((L.ext g1).tk.tup hs) (DVs.ts (L.ext g1).tk hx k))⟩
      · cases h
    · cases h
  · exact b H0 σ H δ S _ _ L h1 q
theorem Ext.del {H H1 : Hp} {S S1 : Addr → Bool} {a : Addr} (g : Ext H S H1 S1) (n : S a = false) : Ext H S H1 (del S1 a) :=
  ⟨g.up, g.hd.trans same_del, fun b h => by
    have : b ≠ a := by intro z; subst z; rw [h] at n; cases n
    rw [del_ne this]; exact g.sub b h, fun b h => by
    by_cases c : b = a
    · subst c; rw [del_same] at h; cases h
    · rw [del_ne c] at h; exact g.new b h⟩
theorem di_list {tg e : Expr} {f : List Sl → M Rz} (h : DE X E e f) : DI X E tg e (fI itemsL f) := by
  obtain ⟨t, a, b⟩ := h
  refine ⟨_, pi_list a, fun H0 σ H δ S R r L h q => ?_⟩
  rcases bnd_inv h with ⟨x, h1, h⟩ | ⟨C, h1, rfl⟩
  · refine b H0 σ H δ S _ _ L h1 fun v H1 S1 g1 rv => ?_
    unfold itemsL at h
    split at h
    · rename_i ds
      cases h
      have rv' : DV X.K (hid H1 S1) v (.list ds) := rv
      cases rv' with
      | lst hs hx => exact ⟨_, rfl, ⟨_, hid_up.seq hs⟩, q _ H1 S1 g1 (it_list hs hx)⟩
    · rename_i ds
      cases h
      obtain ⟨c, xs, rfl, z, n, hl, hx⟩ := rv
      have sc : S c = false := by
        cases e : S c with
        | false => rfl
        | true => obtain ⟨ys, w⟩ := L.lst c e; rw [n] at w; cases w
      exact ⟨c, rfl, ⟨xs, SqL.of hl⟩, q _ H1 (D3.del S1 c) (g1.del sc) (it_list (SqL.of (by rw [hid_f del_same]; exact hl)) (DVs.same same_del hx))⟩
    · cases h
  · exact b H0 σ H δ S _ _ L h1 q
def rangeL (lo : Int) (n : Nat) : List PyData := (List.range n).map fun (i : Nat) => PyData.int (lo + i)
theorem it_range {Hh : Hp} (lo : Int) (n : Nat) : ItOk K (Itr lo n) Hh (rangeL lo n) := by
  have hl : (rangeL lo n).length = n := by unfold rangeL; rw [List.length_map, List.length_range]
  refine ⟨fun i H g hi => by rw [hl] at hi; exact hi, fun i H x H' d g e y => ?_, fun i H g hi => by rw [hl] at hi; exact hi⟩
  obtain ⟨rfl, rfl⟩ := y
  unfold rangeL at e
  rw [List.getElem?_map] at e
  by_cases c : i < n
  · rw [List.getElem?_range c] at e; cases e; exact ⟨rfl, .int _⟩
  · rw [List.getElem?_eq_none (by rw [List.length_range]; omega)] at e; cases e
def rng1 (zs : List Rz) : M (List PyData) :=
  match dsOf zs with
  | some [.int j] => if -(2 ^ 62) ≤ j ∧ j < 2 ^ 62 then okM (rangeL 0 j.toNat) else none
  | _ => none
def rng2 (zs : List Rz) : M (List PyData) :=
  match dsOf zs with
  | some [.int i, .int j] => if -(2 ^ 62) ≤ i ∧ i < 2 ^ 62 ∧ -(2 ^ 62) ≤ j ∧ j < 2 ^ 62 then okM (rangeL i (j - i).toNat) else none
  | _ => none
def fR (g : List Rz → M (List PyData)) (f : List Sl → M (List Rz)) (δ : List Sl) : M (List PyData) := bnd (f δ) g
theorem di_range1 {tg a : Expr} {p pos : Pos} {f : List Sl → M (List Rz)} (hm : X.mg "range" = none) (ha : DA X E [a] f) (hg : Gl X "range" := by rfl) (hs : starEach [a] X.env = [(false, eval a X.env)] := by rfl) : DI X E tg (.Call (.Name "range" p) [a] [] pos) (fR rng1 f) := by
  obtain ⟨t, a1, b⟩ := ha
  refine ⟨_, pi_range1 hg hm a1 hs, fun H0 σ H δ S R r L h q => ?_⟩
  rcases bnd_inv h with ⟨zs, h1, h⟩ | ⟨C, h1, rfl⟩
  · refine b H0 σ H δ S _ _ L h1 fun vs H1 S1 g1 rs => ?_
    unfold rng1 at h
    split at h
    · rename_i j e
      split at h
      · rename_i hc
        cases h
        have hx := dsOf_ok rs e
        cases hx with
        | cons x y => cases x; cases y; exact ⟨j, rfl, hc.1, hc.2, q _ H1 S1 g1 (it_range 0 _)⟩
      · cases h
    · cases h
  · exact b H0 σ H δ S _ _ L h1 q
/-- the loop over known items -/
def forN (g : PyData → List Sl → Option (List Sl)) (b : List Sl → Option Fl) : List PyData → List Sl → Option Fl
  | [], δ => some (.next δ)
  | d :: r, δ => match g d δ with
    | none => none
    | some δ1 => (match b δ1 with
      | some (.next δ2) => forN g b r δ2
      | some (.cnt δ2) => forN g b r δ2
      | some (.brk δ2) => some (.next δ2)
      | x => x)
def fFor (fi : List Sl → M (List PyData)) (g : PyData → List Sl → Option (List Sl)) (b : List Sl → Option Fl) (δ : List Sl) : Option Fl := bS (fi δ) fun items => forN g b items δ
theorem ds_for {n : Nat} {tg iter : Expr} {body : List Stmt} {fi : List Sl → M (List PyData)} {g : PyData → List Sl → Option (List Sl)} {fb : List Sl → Option Fl} {pos : Pos} (Z : Fit n X E) (hi : DI X E tg iter fi) (hg : DG X tg g) (hb : DSs X E body fb)
    (hs : ∀ x, foldedSetIterable iter X.env x = pure x := by intro _; rfl) : DS X E (.For tg iter body [] pos) (fFor fi g fb) := by
  obtain ⟨wi, i1, i2⟩ := hi
  obtain ⟨tg', g1, g2⟩ := hg
  obtain ⟨tb, b1, b2⟩ := hb
  refine ⟨_, ps_for Z.po Z.cm i1 g1 b1 hs, fun H0 σ H δ S D fl L h q => ?_⟩
  rcases bS_inv h with ⟨items, h1, h⟩ | ⟨C, h1, rfl⟩
  · refine i2 H0 σ H δ S _ _ L h1 fun J H1 S1 e1 it => ?_
    have L1 := (L.ext e1).ground
    have base : Same H0 (hid H1 S1) := (L.ext e1).base
    refine ⟨fun i m σ H => m = items.length - i ∧ i ≤ items.length ∧ ∃ δ S, Loc X.K (hid H1 S1) σ H δ S ∧ forN g fb (items.drop i) δ = some fl, ⟨items.length, by simp, Nat.zero_le _, δ, S1, L1, h⟩, ?_⟩
    rintro i m σ2 H2 ⟨rfl, hi, δ2, S2, L2, hf⟩
    by_cases hlt : i < items.length
    · have ei : items[i]? = some items[i] := List.getElem?_eq_getElem hlt
      rw [List.drop_eq_getElem_cons hlt] at hf
      unfold forN at hf
      refine .inr ⟨it.go i H2 L2.old hlt, fun σ' H' => ∃ δ' S', Loc X.K (hid H1 S1) σ' H' δ' S' ∧ forN g fb (items.drop (i + 1)) δ' = some fl, fun σ' H' z => ⟨items.length - (i + 1), by omega, rfl, hlt, z⟩, fun x H' y => ?_⟩
      obtain ⟨rfl, dx⟩ := it.yld i H2 x H' _ L2.old ei y
      split at hf
      · cases hf
      · rename_i δ3 e3
        refine g2 _ σ2 H' δ2 δ3 S2 x _ _ L2 (DV.same L2.base dx) e3 fun σ3 L3 => ?_
        split at hf
        · rename_i δ4 e4
          exact b2 _ σ3 H' δ3 S2 _ _ L3 e4 fun σ' H' S' L' => ⟨δ4, S', L', hf⟩
        · rename_i δ4 e4
          exact b2 _ σ3 H' δ3 S2 _ _ L3 e4 fun σ' H' S' L' => ⟨δ4, S', L', hf⟩
        · rename_i δ4 e4
          cases hf
          refine b2 _ σ3 H' δ3 S2 _ _ L3 e4 fun σ' H' S' L' => ?_
          exact q σ' H' S' ⟨base.trans L'.old, fun b h => base.free (L'.frs b h), L'.lst, L'.len, L'.dat, L'.exc, L'.own, L'.one, L'.two, L'.sep, L'.sop⟩
        · rename_i r n1 n2 n3
          refine b2 _ σ3 H' δ3 S2 _ fl L3 hf ?_
          cases fl with
          | next δ' => exact absurd hf (n1 δ')
          | cnt δ' => exact absurd hf (n2 δ')
          | brk δ' => exact absurd hf (n3 δ')
          | ret o => exact RetOk.up base q
          | exc C => exact fun H' s => q H' (base.trans s)
    · have e : i = items.length := by omega
      subst e
      rw [List.drop_length] at hf
      cases hf
      exact .inl ⟨it.stop _ H2 L2.old (Nat.le_refl _), q σ2 H2 S2 ⟨base.trans L2.old, fun b h => base.free (L2.frs b h), L2.lst, L2.len, L2.dat, L2.exc, L2.own, L2.one, L2.two, L2.sep, L2.sop⟩⟩
  · exact i2 H0 σ H δ S _ _ L h1 (exc_ext L q)
end
end D3

set_option Elab.async false
set_option linter.all false
set_option maxRecDepth 100000
set_option maxHeartbeats 4000000
namespace D3
open PySem PySem.Spec PyProof.Rows L2 L3
variable [Ecx]
section
variable {X : Cx} {E : XK} {K : PySem.W.Frag}
/-! ### a list of one's own that is changed no more from here on -/
def fFrz (i : Nat) (f : List Sl → Option Fl) (δ : List Sl) : Option Fl :=
  match δ[i]? with
  | some (.own ds) => f (δ.set i (.dat (.list ds)))
  | _ => f δ
/-! ### changes of a list of one's own -/
def fMut (k : Nat) (g : List PyData → Option Fl) (δ : List Sl) : Option Fl :=
  match δ[k]? with
  | some (.own ds) => g ds
  | _ => none
theorem fMut_inv {k : Nat} {g : List PyData → Option Fl} {δ : List Sl} {r : Fl} (h : fMut k g δ = some r) : ∃ ds, δ[k]? = some (.own ds) ∧ g ds = some r := by
  unfold fMut at h
  split at h
  · rename_i ds e; exact ⟨ds, e, h⟩
  · cases h
def fApp (k : Nat) (f : List Sl → M Rz) (δ : List Sl) : Option Fl := fMut k (fun ds => bS (f δ) fun x => match datOf x with
  | some d => if ds.length < sizeLine then some (.next (δ.set k (.own (ds ++ [d])))) else none
  | none => none) δ
def fPop (k : Nat) (δ : List Sl) : Option Fl := fMut k (fun ds => if ds = [] then none else some (.next (δ.set k (.own ds.dropLast)))) δ
theorem ds_pop (k : Nat) {x : Str} {npos apos cpos pos : Pos} (hN : X.N[k]? = some x := by rfl) (hv : Vis X.env.scope x := by first | exact Or.inl rfl | exact Or.inr (Or.inl rfl) | exact Or.inr (Or.inr rfl)) (hd : (x == ("__debug__" : Str)) = false := by decide) (hcd : (x == ("__classdict__" : Str)) = false := by decide)
    (hs : swapsWith (.Call (.Attribute (.Name x npos) "pop" apos) [] [] cpos) none pos.line X.env = pure false := by rfl)
    (hbase : attributeBase (.Name x npos) "pop" X.env (eval (.Name x npos) X.env) = eval (.Name x npos) X.env := by rfl) (hline : (apos.endLine == cpos.line) = true := by rfl) :
    DS X E (.Expr (.Call (.Attribute (.Name x npos) "pop" apos) [] [] cpos) pos) (fPop k) := by
  refine ⟨_, ps_expr (pe_bm0 PySem.F.plainAttrs_list PySem.F.slot_list_pop PySem.F.type_list_pop mt_pop (pe_var hN hv hd hcd) hbase hline) hs, fun H0 σ H δ S D fl L h q => ?_⟩
  obtain ⟨ds, e2, h⟩ := fMut_inv h
  obtain ⟨c, xs, c1, c2, c3, c4⟩ := L.own k ds e2
  split at h
  · cases h
  · rename_i hne
    cases h
    have hl := DVs.len c4
    have hpos : 0 < xs.length := by rw [hl]; exact List.length_pos_iff.mpr hne
    refine ⟨_, c1, .inl ⟨rfl, xs, SqL.of c3⟩, c, xs, xs[xs.length - 1], rfl, rfl, c3, List.getElem?_eq_getElem _, ?_⟩
    exact q _ _ S (L.mut e2 c1 (DVs.dropLast c4))
def fRev (k : Nat) (δ : List Sl) : Option Fl := fMut k (fun ds => some (.next (δ.set k (.own ds.reverse)))) δ
/-- x[i] = e -/
def fPut (k : Nat) (f fi : List Sl → M Rz) (δ : List Sl) : Option Fl := bS (f δ) fun x => fMut k (fun ds => bS (fi δ) fun y => match datOf x, y.d? with
  | some d, some (.int i) => (match ixN ds.length i with | some j => some (.next (δ.set k (.own (ds.set j d)))) | none => none)
  | _, _ => none) δ
theorem ds_put (k : Nat) {x : Str} {e i : Expr} {f fi : List Sl → M Rz} {npos spos pos : Pos} (he : DE X E e f) (hi : DE X E i fi) (hN : X.N[k]? = some x := by rfl) (hv : Vis X.env.scope x := by first | exact Or.inl rfl | exact Or.inr (Or.inl rfl) | exact Or.inr (Or.inr rfl)) (hd : (x == ("__debug__" : Str)) = false := by decide) (hcd : (x == ("__classdict__" : Str)) = false := by decide)
    (ha : ∀ v, assign (.Subscript (.Name x npos) i spos) X.env v = (do
      let ov ← holding [v] (eval (.Name x npos) X.env)
      let iv ← holding [v, ov] (eval i X.env)
      standAt spos
      holding [v, ov, iv] (setItem ov iv v)
      release [v, ov, iv] []) := by intro _; rfl)
    (hs : swapsWithSole [.Subscript (.Name x npos) i spos] e pos.line X.env = pure false := by rfl) (hw : swappedStores [.Subscript (.Name x npos) i spos] e X.env = pure none := by rfl)
    (h1 : (assignEach [.Subscript (.Name x npos) i spos] X.env).map (·.2) = [assign (.Subscript (.Name x npos) i spos) X.env] := by rfl) :
    DS X E (.Assign [.Subscript (.Name x npos) i spos] e pos) (fPut k f fi) := by
  obtain ⟨t, a, b⟩ := he
  obtain ⟨u, c, dd⟩ := hi
  refine ⟨_, ps_asg a (pg_sub (pe_var hN hv hd hcd) c set_list ha) hs hw h1, fun H0 σ H δ S D fl L h q => ?_⟩
  rcases bS_inv h with ⟨z, h1, h⟩ | ⟨C, h1, rfl⟩
  · refine b H0 σ H δ S _ _ L h1 fun v H1 S1 g1 rv => ?_
    have L1 := L.ext g1
    obtain ⟨ds, e2, h⟩ := fMut_inv h
    obtain ⟨c, xs, c1, c2, c3, c4⟩ := L1.own k ds e2
    refine ⟨_, c1, ?_⟩
    rcases bS_inv h with ⟨y, h2, h⟩ | ⟨C, h2, rfl⟩
    · refine dd H0 σ H1 δ S1 _ _ L1 h2 fun w H2 S2 g2 rw' => ?_
      have L2 := L1.ext g2
      split at h
      · rename_i d ii e3 e4
        split at h
        · rename_i j e5
          cases h
          have dw := rw'.full e4
          cases dw
          obtain ⟨c', xs', d1, d2, d3, d4⟩ := L2.own k ds e2
          rw [c1] at d1; cases d1
          refine ⟨_, xs', ii, j, rfl, rfl, d3, by rw [DVs.len d4]; exact e5, ?_⟩
          exact q _ _ S2 (L2.mut e2 c1 (DVs.set (datOf_ok L2 (rv.ext g2) e3) j d4))
        · cases h
      · cases h
    · exact dd H0 σ H1 δ S1 _ _ L1 h2 (exc_ext L1 q)
  · exact b H0 σ H δ S _ _ L h1 (exc_ext L q)
/-! ### isinstance -/
inductive Tg where
  | non | bl | int | str | lst | tup
  | exc (n : Ex)
  deriving DecidableEq
def tgD : PyData → Option Tg
  | .none => some .non
  | .bool _ => some .bl
  | .int _ => some .int
  | .str _ => some .str
  | .list _ => some .lst
  | .tuple _ => some .tup
  | .dict _ => none
def tgOf (x : Rz) : Option Tg :=
  match x with
  | .exc n => if isFn n = true then none else some (.exc n)
  | .dat d => tgD d
  | .use d => tgD d
  | .new _ => some .lst
  | .var _ => some .lst
def tgV : Tg → Value
  | .non => .type "NoneType"
  | .bl => .type "bool"
  | .int => .type "int"
  | .str => .type "str"
  | .lst => .type "list"
  | .tup => .type "tuple"
  | .exc n => .ref (ecx n)
theorem ty_data {H : Hp} {v : V} {d : PyData} {tg : Tg} (h : DV K H v d) (e : tgD d = some tg) : TyX K H v (tgV tg) := by
  cases h with
  | non => cases e; exact .non
  | bl b => cases e; exact .bl b
  | int i => cases e; exact .int i
  | str x => cases e; exact .str x
  | tup a b => cases e; exact .tup a
  | lst a b => cases e; exact .lst a
theorem ty_ok {Hs H : Hp} {S : Addr → Bool} {v : V} {x : Rz} {tg : Tg} (r : RV K Hs H S v x) (e : tgOf x = some tg) (xk : ∀ n, tg = .exc n → ExcK K (ecx n)) : TyE K H v (tgV tg) := by
  cases x with
  | exc n =>
    unfold tgOf at e
    dsimp only at e
    split at e
    · cases e
    · rename_i nf
      cases e
      obtain ⟨ea, rfl, z⟩ := r
      exact .exc (xk n rfl) (hid_up _ _ (z.real (by simpa using nf)))
  | dat d => exact .of (ty_data (DV.same hid_up r) e)
  | use d => exact .of (ty_data r e)
  | new ds => cases e; exact .of (ty_data (RV.full r rfl) rfl)
  | var ds => cases e; exact .of (ty_data (RV.full r rfl) rfl)
def gIsi (ans : Tg → Option Bool) (x : Rz) : M Rz :=
  match tgOf x with
  | some tg => (match ans tg with | some b => okM (.dat (.bool b)) | none => none)
  | none => none
theorem gIsi_inv {ans : Tg → Option Bool} {x : Rz} {z : Res Rz} (h : gIsi ans x = some z) : ∃ tg b, tgOf x = some tg ∧ ans tg = some b ∧ z = .ok (.dat (.bool b)) := by
  unfold gIsi at h
  split at h
  · rename_i tg e
    split at h
    · rename_i b e2; cases h; exact ⟨tg, b, e, e2, rfl⟩
    · cases h
  · cases h
/-- what isinstance says of a class, by what is asked of -/
structure IsK (K : PySem.W.Frag) (cv : V) (ans : Tg → Option Bool) : Prop where
  cls : isCls cv = true
  kit : ∀ tg b, ans tg = some b → PySem.W.kitOne K (tgV tg) (vOf cv) = some b
  exc : ∀ n b, ans (.exc n) = some b → ExcK K (ecx n)
structure IsKs (K : PySem.W.Frag) (cs : List V) (ans : Tg → Option Bool) : Prop where
  cls : ∀ c ∈ cs, isCls c = true
  kit : ∀ tg b, ans tg = some b → PySem.W.kitAny K (tgV tg) (cs.map vOf) = some b
  exc : ∀ n b, ans (.exc n) = some b → ExcK K (ecx n)
theorem de_isi {a c : Expr} {cv : V} {ans : Tg → Option Bool} {f : List Sl → M Rz} {p pos : Pos} (hm : X.mg "isinstance" = none) (hk : IsK X.K cv ans) (ha : DE X E a f) (hc : PE X c (tC cv))
    (hg : Gl X "isinstance" := by rfl) (hs : starEach [a, c] X.env = (false, eval a X.env) :: starEach [c] X.env := by rfl) (hs2 : starEach [c] X.env = (false, eval c X.env) :: starEach [] X.env := by rfl) (hpl : (backTo pos (starEach [c] X.env)).any (·.1) = false := by rfl) :
    DE X E (.Call (.Name "isinstance" p) [a, c] [] pos) (fU (gIsi ans) f) := by
  obtain ⟨t, a1, a2⟩ := ha
  refine ⟨_, pe_callB call_isE hg hm PyProof.Rows.boot_isinstance (pa_cons a1 (pa_cons hc pa_nil hs2) hs) (by decide) (by decide) hs hpl, fun H0 σ H δ S Q z L h q => ?_⟩
  rcases bnd_inv h with ⟨x, h1, h⟩ | ⟨C, h1, rfl⟩
  · refine a2 H0 σ H δ S _ _ L h1 fun v H1 S1 g1 rv => ?_
    obtain ⟨tg, b, e1, e2, rfl⟩ := gIsi_inv h
    exact ⟨v, cv, tgV tg, b, rfl, ty_ok rv e1 (fun n e => by subst e; exact hk.exc n b e2), hk.cls, hk.kit tg b e2, q _ H1 S1 g1 (.bl b)⟩
  · exact a2 H0 σ H δ S _ _ L h1 q
def tCs : List V → TA
  | [] => tNil
  | c :: cs => tCons (tC c) (tCs cs)
/-! ### a def, by its body -/
def fnD (n m : Nat) (f : List Sl → Option Fl) (ds : List PyData) : M Out :=
  if ds.length = n then (match f (ds.map Sl.dat ++ List.replicate m Sl.no) with
    | some (.ret o) => some (.ok o)
    | some (.next _) => some (.ok (.val .none))
    | some (.exc C) => some (.err C)
    | _ => none) else none
theorem loc_start {H : Hp} {vs : List V} {ds : List PyData} {N : List Str} {m : Nat} (h : DVs K H vs ds) (hm : N.length - vs.length = m) : Loc K H (L2.start N vs) H (ds.map Sl.dat ++ List.replicate m Sl.no) (fun _ => false) := by
  have hh : hid H (fun _ => false) = H := by funext b; exact hid_f rfl
  have hl := DVs.len h
  have at_ : ∀ (i : Nat) (s : Sl), (ds.map Sl.dat ++ List.replicate m Sl.no)[i]? = some s → (∃ d, ds[i]? = some d ∧ s = .dat d) ∨ s = .no := fun i s e => by
    by_cases c : i < ds.length
    · rw [List.getElem?_append_left (by rw [List.length_map]; exact c), List.getElem?_map, List.getElem?_eq_getElem c] at e
      cases e
      exact .inl ⟨_, List.getElem?_eq_getElem c, rfl⟩
    · rw [List.getElem?_append_right (by rw [List.length_map]; omega), List.getElem?_replicate] at e
      split at e
      · cases e; exact .inr rfl
      · cases e
  refine ⟨Same.refl _, (fun b h => nomatch h), (fun b h => nomatch h), ?_, fun i d e => ?_, fun i C e => ?_, fun i es e => ?_, fun i j d1 d2 a e1 => ?_, fun i o e => ?_, fun i j ds' a kd => ?_, fun i j a kd => ?_⟩
  · unfold L2.start
    rw [List.length_append, List.length_append, List.length_map, List.length_map, List.length_replicate, List.length_replicate, hl, ← hm, hl]
  · rcases at_ i _ e with ⟨d', e1, e2⟩ | e2
    · cases e2
      obtain ⟨v, e3, dv⟩ := DVs.get h e1
      refine ⟨v, ?_, by rw [hh]; exact dv⟩
      unfold L2.start
      have : i < vs.length := (List.getElem?_eq_some_iff.mp e3).1
      rw [List.getElem?_append_left (by rw [List.length_map]; exact this), List.getElem?_map, e3]
      rfl
    · cases e2
  · rcases at_ i _ e with ⟨d', e1, e2⟩ | e2 <;> cases e2
  · rcases at_ i _ e with ⟨d', e1, e2⟩ | e2 <;> cases e2
  · rcases at_ i _ e1 with ⟨d', e1, e2⟩ | e2 <;> cases e2
  · rcases at_ i _ e with ⟨d', e1, e2⟩ | e2 <;> cases e2
  · obtain ⟨o, c, x, y, e, _⟩ := kd
    rcases at_ i _ e with ⟨d', e1, e2⟩ | e2 <;> cases e2
  · obtain ⟨o, c, x, y, e, _⟩ := kd
    rcases at_ i _ e with ⟨d', e1, e2⟩ | e2 <;> cases e2
end
theorem fn_ok {P : Program} {w : World} {K : PySem.W.Frag} {mg : Str → Option Value} {base : Heap} {x : Str} {st : Stmt} {f : Addr} {fd : FuncData} {N ps : List Str} {k : Nat} (n m : Nat) (body : List Sl → Option Fl) (F : Fun K x x st f fd) (S : FnScope N ps (defScope st)) (hn : ps.length = n) (hm : N.length - ps.length = m)
    (hb : ∀ (cdv : Value) (A : Around) (outer : List Env) (s : Shared) (H : Hp) (E : XK), Fit k (cxOf (CXR P w) P w K mg base N x (defScope st) f cdv A outer s H E) E → DSs (cxOf (CXR P w) P w K mg base N x (defScope st) f cdv A outer s H E) E (defBody st) body) :
    FnOk P w K mg base (CXR P w) (k + 1) f fd ps (spD K n (fnD n m body)) := by
  subst hn hm
  refine okX F S (fun vs H Q E h => ?_) (fun cdv A outer s H vs Q E hr h => ?_)
  · obtain ⟨_, _, h, _⟩ := h; exact h
  · obtain ⟨ds, o, hl, dv, e, q⟩ := h
    obtain ⟨t, a, b⟩ := hb cdv A outer s H E ⟨passes_def, raises_def, PassesOwn.leaving, rfl, hr, S.nd⟩
    refine ⟨t, a, ?_⟩
    unfold fnD at e
    have hl2 : ds.length = ps.length := by rw [← DVs.len dv]; exact hl
    rw [if_pos hl2] at e
    have L := loc_start (N := N) (m := N.length - ps.length) dv (by rw [hl])
    split at e
    · rename_i o' e1
      cases e
      exact b H _ H _ _ _ _ L e1 q
    · rename_i δ e1
      cases e
      exact b H _ H _ _ _ _ L e1 fun σ' H' S' L' => q .non H' L'.old .non
    · rename_i C e1
      cases e
      exact b H _ H _ _ _ _ L e1 q
    · cases e
end D3

set_option Elab.async false
set_option linter.all false
set_option maxRecDepth 100000
set_option maxHeartbeats 4000000
namespace D3
open PySem PySem.Spec PyProof.Rows L2 L3
variable [Ecx]
/-! ### the readings in one form -/
def tD (K : PySem.W.Frag) (E : XK) (f : List Sl → M Rz) : TE := fun σ H Q => ∃ H0 δ S r, Loc K H0 σ H δ S ∧ f δ = some r ∧ EndE K E H S Q r
theorem DE.pe {X : Cx} {E : XK} {e : Expr} {f : List Sl → M Rz} (h : DE X E e f) : PE X e (tD X.K E f) := by
  obtain ⟨t, a, b⟩ := h
  intro pins s σ H Q I q
  obtain ⟨H0, δ, S, r, L, e, q⟩ := q
  exact a pins s σ H Q I (b H0 σ H δ S Q r L e q)
def tDT (K : PySem.W.Frag) (E : XK) (f : List Sl → M Bool) : TT := fun σ H Q => ∃ H0 δ S r, Loc K H0 σ H δ S ∧ f δ = some r ∧ EndT E H S Q r
theorem DT.pt {X : Cx} {E : XK} {e : Expr} {f : List Sl → M Bool} (h : DT X E e f) : PT X e (tDT X.K E f) := by
  obtain ⟨t, a, b⟩ := h
  intro pins s σ H Q I q
  obtain ⟨H0, δ, S, r, L, e, q⟩ := q
  exact a pins s σ H Q I (b H0 σ H δ S Q r L e q)
def tDS (K : PySem.W.Frag) (E : XK) (f : List Sl → Option Fl) : TS := fun D σ H => ∃ H0 δ S r, Loc K H0 σ H δ S ∧ f δ = some r ∧ EndS K E H0 D r
theorem DSs.ps {X : Cx} {E : XK} {e : List Stmt} {f : List Sl → Option Fl} (h : DSs X E e f) : PSs X e (tDS X.K E f) := by
  obtain ⟨t, a, b⟩ := h
  intro pins s σ H D I q
  obtain ⟨H0, δ, S, r, L, e, q⟩ := q
  exact a pins s σ H D I (b H0 σ H δ S D r L e q)
/-! ### the names of a comprehension -/
def isFree (p : Str × NameKind) : Bool := match p.2 with | .free => true | _ => false
theorem closure_ex {env : Env} : ∀ (names : List (Str × NameKind)) (acc : List (Str × Addr)), (∀ p ∈ names, p.2 = .free → ∃ c, env.cells.lookup p.1 = some c) →
    ∃ cl : List (Str × Addr), (forIn names acc (fun (x : Str × NameKind) (r : List (Str × Addr)) => (match x with | (name, kind) => if (kind == NameKind.free) = true then (do let a ← cellOf env name; pure (ForInStep.yield ((name, a) :: r))) else pure (ForInStep.yield r)) : Str × NameKind → List (Str × Addr) → Sem (ForInStep (List (Str × Addr))))) = (pure cl : Sem (List (Str × Addr)))
      ∧ (∀ p ∈ cl, p ∈ acc ∨ env.cells.lookup p.1 = some p.2) ∧ (∀ p ∈ names, p.2 = .free → ∃ c, (p.1, c) ∈ cl) ∧ (∀ p ∈ acc, p ∈ cl)
  | [], acc, _ => ⟨acc, rfl, (fun p h => .inl h), (fun p h => nomatch h), (fun p h => h)⟩
  | (n, k) :: r, acc, h => by
    by_cases c : k = .free
    · subst c
      obtain ⟨a, ea⟩ := h (n, .free) (.head _) rfl
      obtain ⟨cl, e, h1, h2, h3⟩ := closure_ex r ((n, a) :: acc) fun p hp => h p (.tail _ hp)
      refine ⟨cl, ?_, fun p hp => ?_, fun p hp hf => ?_, fun p hp => h3 p (.tail _ hp)⟩
      · rw [List.forIn_cons]
        dsimp only
        rw [if_pos (by rfl)]
        unfold cellOf
        have ea' : env.cells.lookup n = some a := ea
        rw [ea']
        exact e
      · rcases h1 p hp with q | q
        · rcases List.mem_cons.mp q with q | q
          · subst q; exact .inr ea
          · exact .inl q
        · exact .inr q
      · rcases List.mem_cons.mp hp with q | q
        · subst q; exact ⟨a, h3 _ (.head _)⟩
        · exact h2 p q hf
    · obtain ⟨cl, e, h1, h2, h3⟩ := closure_ex r acc fun p hp => h p (.tail _ hp)
      refine ⟨cl, ?_, h1, fun p hp hf => ?_, h3⟩
      · rw [List.forIn_cons]
        dsimp only
        rw [if_neg (by intro z; exact c (beq_iff_eq.mp z))]
        exact e
      · rcases List.mem_cons.mp hp with q | q
        · subst q; exact absurd hf c
        · exact h2 p q hf
/-- what a look at the two name tables says -/
def compChk (N : List Str) (x : Str) (sc dsc : Scope) : Bool :=
  decide (sc.kind = .function) && decide (dsc.kind = .function) && sc.names.all (fun p => match p.2 with
    | .cell => false
    | .free => decide (dsc.names.lookup p.1 = some .cell)
    | .local => decide (sc.names.lookup p.1 = some .local)
    | _ => true) && decide (sc.names.lookup x = some .local) && !N.contains x &&
  N.all (fun y => match sc.names.lookup y with
    | some .local => false
    | some .cell => false
    | some .free => decide (dsc.names.lookup y = some .cell)
    | _ => true)
theorem lookup_relabel {env : Env} : ∀ {names : List (Str × NameKind)} {x : Str} {k : NameKind}, (names.map fun (n, k) => if (k == NameKind.free && env.scope.kind == .function && env.kindOf n == some .cell) then (n, NameKind.cell) else (n, k)).lookup x = some k →
    ∃ k', names.lookup x = some k' ∧ (k = k' ∨ (k' = .free ∧ k = .cell))
  | [], _, _, h => by simp at h
  | (n, k0) :: r, x, k, h => by
    have ih := @lookup_relabel env r x k
    have h' : List.lookup x ((if (k0 == NameKind.free && env.scope.kind == .function && env.kindOf n == some .cell) = true then (n, NameKind.cell) else (n, k0)) :: _) = some k := h
    by_cases e : x = n
    · subst e
      refine ⟨k0, by simp [List.lookup], ?_⟩
      split at h'
      · rename_i c
        simp only [List.lookup, beq_self_eq_true] at h'
        cases h'
        simp only [Bool.and_eq_true, beq_iff_eq] at c
        exact .inr ⟨c.1.1, rfl⟩
      · simp only [List.lookup, beq_self_eq_true] at h'
        cases h'
        exact .inl rfl
    · have ne : (x == n) = false := by simp [e]
      have h2 : List.lookup x (r.map fun (n, k) => if (k == NameKind.free && env.scope.kind == .function && env.kindOf n == some .cell) then (n, NameKind.cell) else (n, k)) = some k := by
        split at h' <;> simpa [List.lookup, ne] using h'
      obtain ⟨k', h3, h4⟩ := ih h2
      exact ⟨k', by simpa [List.lookup, ne] using h3, h4⟩
theorem comp_ok {X : Cx} {x : Str} {sc : Scope} (hcell : ∀ y, X.env.scope.names.lookup y = some .cell → ∃ c, X.env.cells.lookup y = some c) (h : compChk X.N x sc X.env.scope = true) : ∃ cl, CompOk X x sc cl := by
  unfold compChk at h
  simp only [Bool.and_eq_true, decide_eq_true_eq, List.all_eq_true, Bool.not_eq_true'] at h
  obtain ⟨⟨⟨⟨⟨h1, h2⟩, h3⟩, h4⟩, h5⟩, h6⟩ := h
  have fr : ∀ p ∈ sc.names, p.2 = .free → X.env.scope.names.lookup p.1 = some .cell := fun p hp e => by
    have := h3 p hp
    rw [e] at this
    simpa using this
  obtain ⟨cl, e, c1, c2, c3⟩ := closure_ex (env := X.env) sc.names [] fun p hp hf => hcell _ (fr p hp hf)
  have inC : ∀ y c, cl.lookup y = some c → X.env.cells.lookup y = some c := fun y c hl => by
    rcases c1 _ (PySem.mem_of_lookup hl) with q | q
    · exact nomatch q
    · exact q
  refine ⟨cl, ⟨?_, inC, fun y hy => ?_, fun p hp e => ?_, h1, fun p hp e => ?_, h4, fun y hy hv => ?_, ?_⟩⟩
  · unfold closureFor
    dsimp only
    rw [e]; rfl
  · have key : ∀ k, (relabel sc X.env).names.lookup y = some k → k = .cell ∨ k = .free → ∃ c, cl.lookup y = some c := fun k hk hkk => by
      obtain ⟨k', e1, e2⟩ := lookup_relabel hk
      have kf : k' = .free := by
        rcases e2 with e2 | e2
        · subst e2
          rcases hkk with z | z
          · subst z
            have := h3 _ (PySem.mem_of_lookup e1)
            simp at this
          · exact z
        · exact e2.1
      subst kf
      obtain ⟨c, hc⟩ := c2 _ (PySem.mem_of_lookup e1) rfl
      have : (cl.lookup y).isSome = true := by
        clear e inC c1 c2 c3 hk e1 e2
        induction cl with
        | nil => exact nomatch hc
        | cons p r ih =>
          simp only [List.lookup]
          by_cases z : y == p.1
          · rw [z]; rfl
          · rw [Bool.not_eq_true] at z
            rw [z]
            rcases List.mem_cons.mp hc with q | q
            · subst q; simp at z
            · exact ih q
      exact Option.isSome_iff_exists.mp this
    rcases hy with hy | hy
    · exact key _ hy (.inl rfl)
    · exact key _ hy (.inr rfl)
  · have := h3 p hp
    rw [e] at this
    simp at this
  · have := h3 p hp
    rw [e] at this
    simpa using this
  · have q6 := h6 y hy
    have pick : ∃ k, (relabel sc X.env).names.lookup y = some k ∧ (k = .local ∨ k = .cell ∨ k = .free) := by
      rcases hv with z | z | z
      · exact ⟨_, z, .inl rfl⟩
      · exact ⟨_, z, .inr (.inl rfl)⟩
      · exact ⟨_, z, .inr (.inr rfl)⟩
    obtain ⟨k, hk, hkk⟩ := pick
    obtain ⟨k', e1, e2⟩ := lookup_relabel hk
    rw [e1] at q6
    have kf : k' = .free := by
      cases k' with
      | «local» => simp at q6
      | cell => simp at q6
      | free => rfl
      | globalExplicit => rcases e2 with z | z <;> rcases hkk with w | w | w <;> simp_all
      | globalImplicit => rcases e2 with z | z <;> rcases hkk with w | w | w <;> simp_all
    subst kf
    have dc : X.env.scope.names.lookup y = some .cell := by simpa using q6
    refine ⟨?_, .inl dc⟩
    rcases e2 with z | z
    · subst z; exact .inr hk
    · rw [z.2] at hk; exact .inl hk
  · intro hm
    have : X.N.contains x = true := List.contains_iff_mem.mpr hm
    rw [this] at h5; cases h5
/-- what a comprehension walks: nothing is changed meanwhile -/
structure ItC (K : PySem.W.Frag) (J : It) (Hf Hh : Hp) (items : List PyData) : Prop where
  go : ∀ i H, Same Hf H → i < items.length → J.go i H
  yld : ∀ i H x H' d, Same Hf H → items[i]? = some d → J.yld i H x H' → H' = H ∧ DV K Hh x d
  stop : ∀ i H, Same Hf H → items.length ≤ i → J.stop i H
def RdIc (K : PySem.W.Frag) (E : XK) (wi : TI) (f : List Sl → M (List PyData)) : Prop :=
  ∀ (H0 : Hp) (σ : L2.St) (H : Hp) (δ : List Sl) (S : Addr → Bool) (R : It → Hp → Prop) (r : Res (List PyData)), Loc K H0 σ H δ S → f δ = some r →
    (match r with | .ok items => ∀ J H' S', Ext H S H' S' → ItC K J H' (hid H' S') items → R J H' | .err C => ∀ H' S', Ext H S H' S' → E (.ref (ecx C)) none H') → wi σ H R
def DIc (X : Cx) (E : XK) (tg iter : Expr) (f : List Sl → M (List PyData)) : Prop := ∃ wi, PI X tg iter wi ∧ RdIc X.K E wi f
theorem DI.c {X : Cx} {E : XK} {tg iter : Expr} {f : List Sl → M (List PyData)} (h : DI X E tg iter f) : DIc X E tg iter f := by
  obtain ⟨wi, a, b⟩ := h
  refine ⟨wi, a, fun H0 σ H δ S R r L e q => b H0 σ H δ S R r L e ?_⟩
  cases r with
  | ok items => exact fun J H' S' g it => q J H' S' g ⟨fun i H s => it.go i H (hid_up.trans s), fun i H x H1 d s e y => it.yld i H x H1 d (hid_up.trans s) e y, fun i H s => it.stop i H (hid_up.trans s)⟩
  | err C => exact q
def itemsV (x : Rz) : M (List PyData) :=
  match x with
  | .var ds => okM ds
  | _ => none
section
variable {X : Cx} {E : XK} {K : PySem.W.Frag}
theorem Kid.uncons {G : Hp} {σ : L2.St} {δ : List Sl} {v : Option V} {d : PyData} {i : Nat} {a : Addr} (k : Kid G (v :: σ) (.dat d :: δ) i a) : ∃ i', i = i' + 1 ∧ Kid G σ δ i' a := by
  obtain ⟨o, c, x, y, e1, e2, e3⟩ := k
  cases i with
  | zero => cases e1
  | succ i => exact ⟨i, rfl, o, c, x, y, by simpa using e1, by simpa using e2, e3⟩
theorem Loc.cons {H0 H : Hp} {σ : L2.St} {δ : List Sl} {S : Addr → Bool} {v : V} {d : PyData} (L : Loc K H0 σ H δ S) (h : DV K (hid H S) v d) : Loc K H0 (some v :: σ) H (.dat d :: δ) S := by
  refine ⟨L.old, L.frs, L.lst, by rw [List.length_cons, List.length_cons, L.len], fun i d' e => ?_, fun i C e => ?_, fun i es e => ?_, fun i j d1 d2 a e1 e2 e3 e4 => ?_, fun i o e => ?_, fun i j ds a kd e => ?_, fun i j a kd kd' => ?_⟩
  · cases i with
    | zero => cases e; exact ⟨v, rfl, h⟩
    | succ i => exact L.dat i d' (by simpa using e)
  · cases i with
    | zero => cases e
    | succ i => exact L.exc i C (by simpa using e)
  · cases i with
    | zero => cases e
    | succ i => exact L.own i es (by simpa using e)
  · cases i with
    | zero => cases e1
    | succ i =>
      cases j with
      | zero => cases e2
      | succ j => rw [L.one i j d1 d2 a (by simpa using e1) (by simpa using e2) (by simpa using e3) (by simpa using e4)]
  · cases i with
    | zero => cases e
    | succ i => exact L.two i o (by simpa using e)
  · obtain ⟨i', rfl, kd⟩ := kd.uncons
    cases j with
    | zero => cases e
    | succ j => exact L.sep i' j ds a kd (by simpa using e)
  · obtain ⟨i', rfl, kd⟩ := kd.uncons
    obtain ⟨j', rfl, kd'⟩ := kd'.uncons
    rw [L.sop i' j' a kd kd']
/-- a list that no name holds is changed -/
theorem Loc.mutX {H0 H : Hp} {σ : L2.St} {δ : List Sl} {S : Addr → Bool} {a : Addr} {xs : List V} (L : Loc K H0 σ H δ S) (hS : S a = true) (hn : ∀ (j : Nat) (es : List PyData), δ[j]? = some (Sl.own es) → σ[j]? ≠ some (some (V.ref a))) (hk : ∀ j, ¬ Kid (hid H S) σ δ j a) : Loc K H0 σ (upd H a (.lst xs)) δ S := by
  have hh := hid_mut (H := H) (o := .lst xs) hS
  refine ⟨fun b o h => ?_, L.frs, fun b h => ?_, L.len, by rw [hh]; exact L.dat, by rw [hh]; exact L.exc, fun j es e => ?_, L.one, fun j o e => ?_, by rw [hh]; exact L.sep, by rw [hh]; exact L.sop⟩
  · have : b ≠ a := by intro z; subst z; rw [L.frs b hS] at h; cases h
    rw [upd_ne this]; exact L.old b o h
  · by_cases c : b = a
    · subst c; exact ⟨xs, upd_same⟩
    · rw [upd_ne c]; exact L.lst b h
  · rw [hh]
    obtain ⟨b, ys, q1, q2, q3, q4⟩ := L.own j es e
    have : b ≠ a := by intro z; subst z; exact hn j es e q1
    exact ⟨b, ys, q1, q2, by rw [upd_ne this]; exact q3, q4⟩
  · rw [hh]
    obtain ⟨c, x, y, xs', ys, q1, q2, q3, q4, q5, q6, q7⟩ := L.two j o e
    obtain ⟨k1, k2⟩ := Kid.mk' (G := hid H S) e q1 q2
    have n1 : x ≠ a := fun z => hk j (z ▸ k1)
    have n2 : y ≠ a := fun z => hk j (z ▸ k2)
    exact ⟨c, x, y, xs', ys, q1, q2, q3, q4, by rw [upd_ne n1]; exact q5, by rw [upd_ne n2]; exact q6, q7⟩
/-- [elt for x in items if t] -/
def lcN (ft : List Sl → M Bool) (fe : List Sl → M Rz) (δ : List Sl) : List PyData → Option (List PyData)
  | [] => some []
  | d :: r => match ft (.dat d :: δ) with
    | some (.ok true) => (match fe (.dat d :: δ) with
      | some (.ok z) => (match datOf z, lcN ft fe δ r with
        | some e, some es => some (e :: es)
        | _, _ => none)
      | _ => none)
    | some (.ok false) => lcN ft fe δ r
    | _ => none
def fLC (fi : List Sl → M (List PyData)) (ft : List Sl → M Bool) (fe : List Sl → M Rz) (δ : List Sl) : M Rz := bnd (fi δ) fun items => if items.length < sizeLine then (match lcN ft fe δ items with | some ds => okM (.new ds) | none => none) else none
def DIfs (X : Cx) (ifs : List Expr) (f : List Sl → M Bool) : Prop := PIfs X ifs (tDT X.K E0 f)
def fTrue (_ : List Sl) : M Bool := okM true
theorem difs_nil : DIfs X [] fTrue := fun pins s σ H Q I q => by
  obtain ⟨H0, δ, S, r, L, e, q⟩ := q
  cases e
  exact pifs_nil pins s σ H Q I (q H S .refl)
theorem len_lc {ft : List Sl → M Bool} {fe : List Sl → M Rz} {δ : List Sl} : ∀ {items ds : List PyData}, lcN ft fe δ items = some ds → ds.length ≤ items.length
  | [], ds, h => by cases h; exact Nat.le_refl _
  | d :: r, ds, h => by
    unfold lcN at h
    split at h
    · split at h
      · split at h
        · rename_i e es e1 e2
          cases h
          have := len_lc e2
          simp; omega
        · cases h
      · cases h
    · have := len_lc h
      simp; omega
    · cases h
theorem rd_lc {wi : TI} {fi : List Sl → M (List PyData)} {ft : List Sl → M Bool} {fe : List Sl → M Rz} (i2 : RdIc K E wi fi) : RdE K E (tLC wi (tDT K E0 ft) (tD K E0 fe)) (fLC fi ft fe) := by
  intro H0 σ H δ S Q z L h q
  rcases bnd_inv h with ⟨items, h1, h⟩ | ⟨C, h1, rfl⟩
  · refine i2 H0 σ H δ S _ _ L h1 fun J H1 S1 g1 it => ?_
    split at h
    · rename_i hsz
      split at h
      · rename_i total etot
        cases h
        intro acc hacc
        have L1 := L.ext g1
        have ne : ∀ (j : Nat) (es : List PyData), δ[j]? = some (Sl.own es) → σ[j]? ≠ some (some (V.ref acc)) := fun j es e c => by
          obtain ⟨b, e1, e2⟩ := L1.owned j es e
          rw [c] at e1; cases e1
          exact e2 hacc
        have tl := len_lc etot
        refine ⟨fun i m xs H => m = items.length - i ∧ i ≤ items.length ∧ ∃ S es rest, Loc K (hid H1 S1) σ H δ S ∧ S acc = true ∧ H acc = some (.lst xs) ∧ DVs K (hid H S) xs es ∧ lcN ft fe δ (items.drop i) = some rest ∧ es ++ rest = total ∧ Ext H1 S1 H S,
          ⟨items.length, by simp, Nat.zero_le _, ins S1 acc, [], total, ?_, ins_same, upd_same, .nil, etot, rfl, Ext.ins hacc⟩, ?_⟩
        · have := (L1.ground).ext (Ext.ins (xs := []) hacc)
          exact this
        · rintro i m xs H2 ⟨rfl, hi, S2, es, rest, L2, sa, ha, hx, hr, htot, g2⟩
          refine ⟨ha, ?_⟩
          by_cases hlt : i < items.length
          · have ei : items[i]? = some items[i] := List.getElem?_eq_getElem hlt
            rw [List.drop_eq_getElem_cons hlt] at hr
            unfold lcN at hr
            refine .inr ⟨it.go i H2 g2.up hlt, fun y H' hy => ?_⟩
            obtain ⟨rfl, dy⟩ := it.yld i H2 y H' _ g2.up ei hy
            have Lc := L2.cons (DV.same L2.base dy)
            split at hr
            · rename_i et
              refine ⟨_, _, S2, _, Lc, et, fun H3 S3 g3 => ?_⟩
              refine iteT ?_
              split at hr
              · rename_i zz ez
                split at hr
                · rename_i e er e1 e2
                  cases hr
                  refine ⟨_, _, S3, _, Lc.ext g3, ez, fun v H4 S4 g4 rv => ?_⟩
                  have L4 := (L2.ext g3).ext g4
                  have xe4 := (g2.trans g3).trans g4
                  have sa4 : S4 acc = true := g4.sub _ (g3.sub _ sa)
                  have lx : xs.length < sizeLine := by
                    rw [DVs.len hx]
                    have : es.length + (er.length + 1) = total.length := by rw [← htot, List.length_append, List.length_cons]
                    omega
                  refine ⟨g4.up _ _ (g3.up _ _ ha), lx, items.length - (i + 1), by omega, rfl, hlt, S4, es ++ [e], er, L4.mutX sa4 ne (fun j k => L1.kids xe4 j acc k hacc), sa4, upd_same, ?_, e2, by rw [List.append_assoc]; exact htot, ?_⟩
                  · rw [hid_mut sa4]
                    exact DVs.append (.cons (datOf_ok ((Lc.ext g3).ext g4) rv e1) .nil) (DVs.same g4.hd (DVs.same g3.hd hx))
                  · refine ⟨fun b o e => ?_, by rw [hid_mut sa4]; exact xe4.hd, xe4.sub, fun b hb => ?_⟩
                    · have : b ≠ acc := by intro z; subst z; rw [hacc] at e; cases e
                      rw [upd_ne this]; exact xe4.up b o e
                    · rcases xe4.new b hb with z | ⟨z, w⟩
                      · exact .inl z
                      · refine .inr ⟨z, ?_⟩
                        by_cases c : b = acc
                        · subst c; exact ⟨_, upd_same⟩
                        · rw [upd_ne c]; exact w
                · cases hr
              · cases hr
            · rename_i et
              refine ⟨_, _, S2, _, Lc, et, fun H3 S3 g3 => ?_⟩
              refine iteF ?_
              exact ⟨items.length - (i + 1), by omega, rfl, hlt, S3, es, rest, L2.ext g3, g3.sub _ sa, g3.up _ _ ha, DVs.same g3.hd hx, hr, htot, g2.trans g3⟩
            · cases hr
          · have e : i = items.length := by omega
            subst e
            rw [List.drop_length] at hr
            cases hr
            rw [List.append_nil] at htot
            subst htot
            refine .inl ⟨it.stop _ H2 g2.up (Nat.le_refl _), q _ H2 S2 (g1.trans g2) ⟨acc, xs, rfl, sa, g1.up.free hacc, ha, hx⟩⟩
      · cases h
    · cases h
  · exact i2 H0 σ H δ S _ _ L h1 q
theorem de_lc {n : Nat} {x : Str} {scope : Scope} {elt iter : Expr} {ifs : List Expr} {px pos : Pos} {fi : List Sl → M (List PyData)} {ft : List Sl → M Bool} {fe : List Sl → M Rz} (Z : Fit n X E) (hcell : ∀ y, X.env.scope.names.lookup y = some .cell → ∃ c, X.env.cells.lookup y = some c) (chk : compChk X.N x scope X.env.scope = true)
    (hi : DIc X E (.Name x px) iter fi) (ht : ∀ cl C s0 H0 fp, Fit n (cxC X x scope cl C s0 H0 fp) E0 → DIfs (cxC X x scope cl C s0 H0 fp) ifs ft) (he : ∀ cl C s0 H0 fp, Fit n (cxC X x scope cl C s0 H0 fp) E0 → DE (cxC X x scope cl C s0 H0 fp) E0 elt fe)
    (hf : ∀ v, foldedSetIterable iter X.env v = pure v := by intro _; rfl) : DE X E (.ListComp elt [⟨.Name x px, iter, ifs, 0⟩] scope pos) (fLC fi ft fe) := by
  obtain ⟨cl, ok⟩ := comp_ok hcell chk
  obtain ⟨wi, i1, i2⟩ := hi
  have fit : ∀ C s0 H0 fp, Fit n (cxC X x scope cl C s0 H0 fp) E0 := fun C s0 H0 fp => by
    refine ⟨fun pins σ H s e s' I h => ?_, fun pins σ H s h' ea C' vs I hm hE => hE.elim, PassesOwn.never, Z.cm, Z.rm, List.nodup_cons.mpr ⟨ok.nd, Z.nd⟩⟩
    obtain ⟨_, _, _, _, _, _, _, _, _, _, _, _, _, _, z⟩ := h
    exact z.elim
  exact ⟨_, pe_lc (tt := tDT X.K E0 ft) (te := tD X.K E0 fe) ok Z.nd Z.cm i1 (fun C s0 H0 fp => ht cl C s0 H0 fp (fit C s0 H0 fp)) (fun C s0 H0 fp => (he cl C s0 H0 fp (fit C s0 H0 fp)).pe) hf, rd_lc i2⟩
theorem ds_lcA (iy : Nat) {n : Nat} {x y : Str} {scope : Scope} {elt iter : Expr} {ifs : List Expr} {px py pos spos : Pos} {fi : List Sl → M (List PyData)} {ft : List Sl → M Bool} {fe : List Sl → M Rz} (Z : Fit n X E) (hcell : ∀ y, X.env.scope.names.lookup y = some .cell → ∃ c, X.env.cells.lookup y = some c) (chk : compChk X.N x scope X.env.scope = true)
    (hi : DIc X E (.Name x px) iter fi) (ht : ∀ cl C s0 H0 fp, Fit n (cxC X x scope cl C s0 H0 fp) E0 → DIfs (cxC X x scope cl C s0 H0 fp) ifs ft) (he : ∀ cl C s0 H0 fp, Fit n (cxC X x scope cl C s0 H0 fp) E0 → DE (cxC X x scope cl C s0 H0 fp) E0 elt fe)
    (hiy : X.N[iy]? = some y := by rfl) (hy : L2.Loc X.env.scope y := by first | exact Or.inl rfl | exact Or.inr rfl) (hfy : X.fn y = true ∨ X.env.scope.names.lookup y = some .local := by first | exact .inl rfl | exact .inr rfl) (hsw : swapsWith (.ListComp elt [⟨.Name x px, iter, ifs, 0⟩] scope pos) (some (.Name y py)) spos.line X.env = pure true := by rfl)
    (hf : ∀ v, foldedSetIterable iter X.env v = pure v := by intro _; rfl) : DS X E (.Assign [.Name y py] (.ListComp elt [⟨.Name x px, iter, ifs, 0⟩] scope pos) spos) (fSet iy (fLC fi ft fe)) := by
  obtain ⟨cl, ok⟩ := comp_ok hcell chk
  obtain ⟨wi, i1, i2⟩ := hi
  have fit : ∀ C s0 H0 fp, Fit n (cxC X x scope cl C s0 H0 fp) E0 := fun C s0 H0 fp => by
    refine ⟨fun pins σ H s e s' I h => ?_, fun pins σ H s h' ea C' vs I hm hE => hE.elim, PassesOwn.never, Z.cm, Z.rm, List.nodup_cons.mpr ⟨ok.nd, Z.nd⟩⟩
    obtain ⟨_, _, _, _, _, _, _, _, _, _, _, _, _, _, z⟩ := h
    exact z.elim
  exact ⟨_, ps_lcA (tt := tDT X.K E0 ft) (te := tD X.K E0 fe) ok Z.nd Z.cm i1 (fun C s0 H0 fp => ht cl C s0 H0 fp (fit C s0 H0 fp)) (fun C s0 H0 fp => (he cl C s0 H0 fp (fit C s0 H0 fp)).pe) hiy hy hfy hsw hf, rd_set (rd_lc i2)⟩
end
end D3

set_option Elab.async false
set_option linter.all false
set_option maxRecDepth 100000
set_option maxHeartbeats 4000000
namespace D3
open PySem PySem.Spec PyProof.Rows L2 L3
variable [Ecx]
section
variable {X : Cx} {E : XK} {K : PySem.W.Frag}
/-! ### try: f(..) | x = f(..), except C as n: .. -/
/-- what may be caught -/
def CatchAll (K : PySem.W.Frag) (B : Addr) (cs : Ex → Bool) : Prop := ∀ n, cs n = true → CatchK K (ecx n) B ∧ isFn n = false
def afterH (j : Nat) (r : Option Fl) : Option Fl :=
  match r with
  | some (.next δ) => some (.next (δ.set j .no))
  | _ => none
def fTry (cs : Ex → Bool) (g : List Rz → M Rz) (fa : List Sl → M (List Rz)) (k : Rz → List Sl → Option (List Sl)) (j : Nat) (b : List Sl → Option Fl) (δ : List Sl) : Option Fl :=
  match fa δ with
  | some (.ok zs) => (match g zs with
    | some (.ok z) => (match k z δ with | some δ' => some (.next δ') | none => none)
    | some (.err C) => if cs C = true then afterH j (b (δ.set j (.exc C))) else none
    | none => none)
  | _ => none
def tTryA (K : PySem.W.Frag) (te : L2.St → Hp → VK → XK → Prop) (i : Nat) (B : Addr) (j : Nat) (ts : TS) : TS := fun D σ H =>
  te σ H (fun x H1 => D.nx (σ.set i (some x)) H1) fun C _ H' => ∃ c, C = .ref c ∧ CatchK K c B ∧
    ∀ ea, H' ea = none → ts { nx := fun σ' H2 => D.nx (σ'.set j none) H2, rt := fun _ _ => False } (σ.set j (some (.ref ea))) (upd H' ea (excO ea (.ref c)))
def kDrop (_ : Rz) (δ : List Sl) : Option (List Sl) := some δ
def kSet (i : Nat) (z : Rz) (δ : List Sl) : Option (List Sl) := match slotOf z with | some s => some (δ.set i s) | none => none
end
end D3

set_option Elab.async false
set_option linter.all false
set_option maxRecDepth 100000
set_option maxHeartbeats 4000000
namespace D3
open PySem PySem.Spec PyProof.Rows L2 L3
variable [Ecx]
/-- a constant of the module -/
structure HasC (K : PySem.W.Frag) (mg : Str → Option Value) (x : Str) (d : PyData) : Prop where
  ex : ∃ v u, mg x = some u ∧ RelV v u ∧ ∀ H, DV K H v d
theorem de_const {X : Cx} {E : XK} {x : Str} {d : PyData} {pos : Pos} (h : HasC X.K X.mg x d) (hg : Gl X x := by rfl) (hdb : (x == ("__debug__" : Str)) = false := by decide) : DE X E (.Name x pos) (fC d) := by
  obtain ⟨v, u, hm, r, hd⟩ := h.ex
  exact de_glob hm r hd hg hdb
theorem hasC_int {K : PySem.W.Frag} {mg : Str → Option Value} {x : Str} {i : Int} {t : Tok} (h : mg x = some (.int i t)) : HasC K mg x (.int i) := ⟨.int i, _, h, ⟨t, rfl⟩, fun _ => .int i⟩
theorem hasC_pair {K : PySem.W.Frag} {mg : Str → Option Value} {x : Str} {a : Addr} {i j : Int} {t u : Tok} {od : Option Addr} {n : Nat} {sl : Array (Option Value)} (h : mg x = some (.ref a)) (l : K.lookup a = some ⟨.type "tuple", od, .seq #[.int i t, .int j u] n, sl⟩) : HasC K mg x (.tuple [.int i, .int j]) :=
  ⟨.ref a, _, h, rfl, fun H => .tup (xs := [.int i, .int j]) (.inr ⟨_, _, _, l, rfl, rfl, (by show 2 ≤ sizeLine; decide), .cons ⟨t, rfl⟩ (.cons ⟨u, rfl⟩ .nil)⟩) (.cons (.int i) (.cons (.int j) .nil))⟩
/-- answers by a table -/
def ansL : List (Tg × Bool) → Tg → Option Bool
  | [], _ => none
  | (t, b) :: r, tg => if tg = t then some b else ansL r tg
theorem ansL_mem : ∀ {l : List (Tg × Bool)} {tg : Tg} {b : Bool}, ansL l tg = some b → (tg, b) ∈ l
  | [], _, _, h => nomatch h
  | (t, b') :: r, tg, b, h => by
    unfold ansL at h
    split at h
    · rename_i e; subst e; cases h; exact .head _
    · exact .tail _ (ansL_mem h)
theorem isK_of {K : PySem.W.Frag} {cv : V} {l : List (Tg × Bool)} (c : isCls cv = true) (h : ∀ p ∈ l, PySem.W.kitOne K (tgV p.1) (vOf cv) = some p.2 ∧ ∀ n, p.1 = .exc n → ExcK K (ecx n)) : IsK K cv (ansL l) :=
  ⟨c, fun tg b e => (h _ (ansL_mem e)).1, fun n b e => (h _ (ansL_mem e)).2 n rfl⟩
/-- the law's end -/
theorem dvs_ints {K : PySem.W.Frag} {H : Hp} : ∀ ns : List Int, DVs K H (ns.map V.int) (ns.map PyData.int)
  | [] => .nil
  | n :: r => .cons (.int n) (dvs_ints r)
theorem law_conv {P : Program} {w : World} {K : PySem.W.Frag} {mg : Str → Option Value} {base : Heap} {k : Nat} {f : Addr} {fd : FuncData} {F : List PyData → M Out} (h : FnOk P w K mg base (CXR P w) k f fd ["_law_script"] (spD K 1 F)) (hk : k ≤ 40)
    (pure_ : ∀ ns : List Int, ns.length ≤ 63 → F [.list (ns.map PyData.int)] = some (.ok (.val (.bool true)))) : FnOk P w K mg base CX0 40 f fd ["_law_script"] (spLaw K) := by
  refine ⟨fun vs H Q E h => ?_, fun A outer s H args us vs Q E hr e0 hb rv sp => ?_⟩
  · obtain ⟨a, ns, rfl, _⟩ := h; rfl
  · obtain ⟨a, ns, rfl, hS, hl, q⟩ := sp
    refine codeAny_mono (h.run A outer s H args us [.ref a] Q (fun _ _ _ => False) (hr.mono hk) e0 hb rv ⟨[.list (ns.map PyData.int)], _, rfl, .cons (.lst hS (dvs_ints ns)) .nil, pure_ ns hl, ?_⟩) fun r s' hq => ?_
    · intro v H' g dv
      cases dv
      exact q H'
    · cases r with
      | ok fl => cases fl <;> exact hq
      | error e =>
        obtain ⟨_, _, _, _, _, _, _, _, _, _, _, _, _, _, z⟩ := hq
        exact z.elim
end D3

set_option Elab.async false
set_option linter.all false
set_option maxRecDepth 100000
set_option maxHeartbeats 4000000
namespace D3
open PySem PySem.Spec PyProof.Rows L2 L3
variable [Ecx]
section
variable {X : Cx} {E : XK} {K : PySem.W.Frag}
/-! ### reversed(t), range(a, b, -1), x[::-1] -/
def itemsRevT (x : Rz) : M (List PyData) :=
  match x with
  | .dat (.tuple ds) => okM ds.reverse
  | .use (.tuple ds) => if noLs ds = true then okM ds.reverse else none
  | _ => none
def rangeD (lo : Int) (n : Nat) : List PyData := (List.range n).map fun (i : Nat) => PyData.int (lo - i)
def rng3 (zs : List Rz) : M (List PyData) :=
  match dsOf zs with
  | some [.int i, .int j, .int (-1)] => if -(2 ^ 62) ≤ i ∧ i < 2 ^ 62 ∧ -(2 ^ 62) ≤ j ∧ j < 2 ^ 62 then okM (rangeD i (i - j).toNat) else none
  | _ => none
def gRevL (x : Rz) : M Rz :=
  match x.d? with
  | some (.list ds) => if kept x ds = true then okM (.new ds.reverse) else none
  | _ => none
def gRevT (x : Rz) : M Rz :=
  match x.d? with
  | some (.tuple ds) => if kept x ds = true then okM (.dat (.tuple ds.reverse)) else none
  | _ => none
end
end D3

set_option Elab.async false
set_option linter.all false
set_option maxRecDepth 100000
set_option maxHeartbeats 4000000
namespace D3
open PySem PySem.Spec PyProof.Rows L2 L3
end D3

set_option Elab.async false
set_option linter.all false
set_option maxRecDepth 100000
set_option maxHeartbeats 4000000
namespace D3
open PySem PySem.Spec PyProof.Rows L2 L3
variable [Ecx]
section
variable {X : Cx} {E : XK}
end
end D3

set_option Elab.async false
set_option linter.all false
set_option maxRecDepth 100000
set_option maxHeartbeats 4000000
namespace D3
open PySem PySem.Spec PyProof.Rows L2 L3
variable [Ecx]
section
variable {X : Cx} {E : XK} {K : PySem.W.Frag}
def gSlT (x : Rz) (lo hi : Option Int) : M Rz :=
  match x.d? with
  | some (.tuple ds) => if kept x ds = true then okM (.dat (.tuple (cutD ds lo hi))) else none
  | _ => none
/-- [elt for x, y in items] -/
def lcN2 (fe : List Sl → M Rz) (δ : List Sl) : List PyData → Option (List PyData)
  | [] => some []
  | .tuple [d1, d2] :: r => (match fe (.dat d1 :: .dat d2 :: δ) with
      | some (.ok z) => (match datOf z, lcN2 fe δ r with
        | some e, some es => some (e :: es)
        | _, _ => none)
      | _ => none)
  | _ => none
def fLC2 (fi : List Sl → M (List PyData)) (fe : List Sl → M Rz) (δ : List Sl) : M Rz := bnd (fi δ) fun items => if items.length < sizeLine then (match lcN2 fe δ items with | some ds => okM (.new ds) | none => none) else none
def compChk2 (N : List Str) (x x2 : Str) (sc dsc : Scope) : Bool := compChk N x sc dsc && decide (sc.names.lookup x2 = some .local) && !N.contains x2 && decide (x ≠ x2)
end
end D3

set_option Elab.async false
set_option linter.all false
set_option maxRecDepth 100000
set_option maxHeartbeats 4000000
namespace D3
open PySem PySem.Spec PyProof.Rows L2 L3
variable [Ecx]
section
variable {X : Cx} {E : XK} {K : PySem.W.Frag}
/-! ### walked: one kind or the other -/
def orI (f g : List Sl → M (List PyData)) (δ : List Sl) : M (List PyData) :=
  match f δ with
  | some r => some r
  | none => g δ
/-! ### return (a, b, ..) with lists of one's own in it -/
def mineOf (x : Rz) : Option PyData :=
  match x with
  | .dat d => if noL d = true then some d else none
  | .use d => if noL d = true then some d else none
  | .new ds => if noLs ds = true then some (.list ds) else none
  | .var ds => if noLs ds = true then some (.list ds) else none
  | .exc _ => none
def minesOf : List Rz → Option (List PyData)
  | [] => some []
  | x :: xs => match mineOf x, minesOf xs with
    | some d, some ds => some (d :: ds)
    | _, _ => none
def fRetT (fa : List Sl → M (List Rz)) (δ : List Sl) : Option Fl := bS (fa δ) fun zs => match minesOf zs with
  | some ds => if ds.length ≤ sizeLine then some (.ret (.mine (.tuple ds))) else none
  | none => none
/-! ### list + list of any kind -/
def gCatS (x y : Rz) : M Rz :=
  match x.d?, y.d? with
  | some (.list ds), some (.list es) => if kept x ds = true ∧ kept y es = true ∧ ds.length + es.length ≤ sizeLine then okM (.new (ds ++ es)) else none
  | _, _ => none
/-! ### in, not in -/
def gIn (neg : Bool) (x y : Rz) : M Rz :=
  match x.d?, y.d? with
  | some d, some (.list ds) => if okD d = true ∧ okD (.list ds) = true then okM (.dat (.bool (if neg then !(ds.any fun y => PyData.eqv y d) else ds.any fun y => PyData.eqv y d))) else none
  | some d, some (.tuple ds) => if okD d = true ∧ okD (.list ds) = true then okM (.dat (.bool (if neg then !(ds.any fun y => PyData.eqv y d) else ds.any fun y => PyData.eqv y d))) else none
  | _, _ => none
theorem od_in {neg : Bool} : OpD K E (rInD K neg) (gIn neg) := by
  intro H0 σ H δ S Ha Hb v w x y z Q L rx ry h q
  unfold gIn at h
  split at h
  · rename_i d ds e1 e2
    split at h
    · rename_i c
      cases h
      exact ⟨d, ds, rx.full e1, .inl (ry.full e2), c.1, c.2, q _ H S .refl (.bl _)⟩
    · cases h
  · rename_i d ds e1 e2
    split at h
    · rename_i c
      cases h
      exact ⟨d, ds, rx.full e1, .inr (ry.full e2), c.1, c.2, q _ H S .refl (.bl _)⟩
    · cases h
  · cases h
/-! ### bits -/
def gShr (i j : Int) : Option PyData := if 0 ≤ j then some (.int (i / 2 ^ j.toNat)) else none
def gBand (i j : Int) : Option PyData := some (.int (Builtin.bitAnd i j))
end
theorem _root_.L2.Room.units66 {k : Nat} {A : Around} (r : Room k A) : A.units + 66 < cLine := by have := r.un; omega
end D3

set_option Elab.async false
set_option linter.all false
set_option maxRecDepth 100000
set_option maxHeartbeats 4000000
namespace D3
open PySem PySem.Spec PyProof.Rows L2 L3
variable [Ecx]
section
variable {X : Cx} {E : XK} {K : PySem.W.Frag}
def chkN (N N' : List Str) (x : Str) (sc : Scope) : Bool :=
  decide (N'.length = N.length) && decide N'.Nodup && !N'.contains x && (N.zip N').all fun p => decide (p.1 = p.2) || decide (sc.names.lookup p.2 = none)
end
end D3

set_option Elab.async false
set_option linter.all false
set_option maxRecDepth 100000
set_option maxHeartbeats 4000000
namespace D3
open PySem PySem.Spec PyProof.Rows L2 L3
variable [Ecx]
section
variable {X : Cx} {E : XK} {K : PySem.W.Frag}
/-! ### a op b op c -/
def fChain (g g' : Rz → Rz → M Rz) (fa fb fc : List Sl → M Rz) (δ : List Sl) : M Rz := bnd (fa δ) fun x => bnd (fb δ) fun y => bnd (g x y) fun z => match z with
  | .dat (.bool true) => bnd (fc δ) fun w => g' y w
  | .dat (.bool false) => okM (.dat (.bool false))
  | _ => none
/-! ### return f(e, ..): what f tells is told -/
def fRetF (n : Nat) (f : List PyData → M Out) (fa : List Sl → M (List Rz)) (δ : List Sl) : Option Fl := bS (fa δ) fun zs => match dsOf zs with
  | some ds => if ds.length = n then bS (f ds) fun o => some (.ret o) else none
  | none => none
/-! ### xs.count(True), xs.index(True) of truths -/
def boolsOf : List PyData → Option (List Bool)
  | [] => some []
  | .bool b :: r => match boolsOf r with | some bs => some (b :: bs) | none => none
  | _ => none
def gCnt (x : Rz) : M Rz :=
  match x.d? with
  | some (.list ds) => (match boolsOf ds with | some bs => okM (.dat (.int ((bs.count true : Nat) : Int))) | none => none)
  | _ => none
def gIdx (x : Rz) : M Rz :=
  match x.d? with
  | some (.list ds) => (match boolsOf ds with | some bs => if bs.idxOf true < bs.length ∧ bs.length < 1000000 then okM (.dat (.int ((bs.idxOf true : Nat) : Int))) else none | none => none)
  | _ => none
end
end D3

set_option Elab.async false
set_option linter.all false
set_option maxRecDepth 100000
set_option maxHeartbeats 4000000
namespace D3
open PySem PySem.Spec PyProof.Rows L2 L3
variable [Ecx]
/-! ### a def of one argument that is handed a refusal -/
def spX (K : PySem.W.Frag) (f : Ex → M Out) : Sp := fun vs H Q E => ∃ (C : Ex) (ea : Addr) (o : Res Out), vs = [.ref ea] ∧ ExAt H ea C ∧ f C = some o ∧ EndF K E H Q o
def fnX (m : Nat) (f : List Sl → Option Fl) (C : Ex) : M Out :=
  match f (Sl.exc C :: List.replicate m Sl.no) with
    | some (.ret o) => some (.ok o)
    | some (.next _) => some (.ok (.val .none))
    | some (.exc C) => some (.err C)
    | _ => none
section
variable {X : Cx} {E : XK} {K : PySem.W.Frag}
def fRetX (f : Ex → M Out) (fa : List Sl → M (List Rz)) (δ : List Sl) : Option Fl := bS (fa δ) fun zs => match zs with
  | [.exc C] => bS (f C) fun o => some (.ret o)
  | _ => none
end
end D3

set_option Elab.async false
set_option linter.all false
set_option maxRecDepth 100000
set_option maxHeartbeats 4000000
/-! a pair of lists that only one name holds: told back, kept, changed -/
namespace D3
open PySem PySem.Spec PyProof.Rows L2 L3
variable [Ecx]
section
variable {X : Cx} {E : XK} {K : PySem.W.Frag}
section
variable {H0 H H' : Hp} {σ : L2.St} {δ : List Sl} {S S' : Addr → Bool}
/-- two new lists -/
theorem Ext.two {a b : Addr} {xs ys : List V} (g : Same H H') (na : H a = none) (nb : H b = none) (ha : H' a = some (.lst xs)) (hb : H' b = some (.lst ys)) : Ext H S H' (D3.ins (D3.ins S a) b) := by
  refine ⟨g, fun p o e => ?_, fun p h => ?_, fun p h => ?_⟩
  · have pa : p ≠ a := by intro z; subst z; have := hid_up _ _ e; rw [na] at this; cases this
    have pb : p ≠ b := by intro z; subst z; have := hid_up _ _ e; rw [nb] at this; cases this
    cases sp : S p with
    | true => rw [hid_t sp] at e; cases e
    | false => rw [hid_f sp] at e; rw [hid_f (by rw [ins_ne pb, ins_ne pa]; exact sp)]; exact g _ _ e
  · unfold D3.ins; split
    · rfl
    · split
      · rfl
      · exact h
  · by_cases pb : p = b
    · subst pb; exact .inr ⟨nb, ys, hb⟩
    · rw [ins_ne pb] at h
      by_cases pa : p = a
      · subst pa; exact .inr ⟨na, xs, ha⟩
      · rw [ins_ne pa] at h; exact .inl h
end
/-! ### x = f(..), where f tells a pair of new lists -/
def fSetP (i m : Nat) (f : List PyData → M Out) (fa : List Sl → M (List Rz)) (δ : List Sl) : Option Fl := bS (fa δ) fun zs => match dsOf zs with
  | some ds => if ds.length = m then bS (f ds) (fun o => match o with | .two xs ys => some (.next (δ.set i (.prs (some (xs, ys))))) | _ => none) else none
  | none => none
/-! ### return (a, b): two lists of one's own -/
def lsOf (x : Rz) : Option (List PyData) :=
  match x with
  | .new ds => if noLs ds = true then some ds else none
  | .var ds => if noLs ds = true then some ds else none
  | _ => none
def fRetP (fa : List Sl → M (List Rz)) (δ : List Sl) : Option Fl := bS (fa δ) fun zs => match zs with
  | [x, y] => (match lsOf x, lsOf y with | some ds, some es => some (.ret (.two ds es)) | _, _ => none)
  | _ => none
/-! ### x[j].append(e), x[j].clear() -/
def pick {α : Type} (j : Int) (a b : α) : Option α := if j = 0 then some a else if j = 1 then some b else none
def fAppP (k : Nat) (j : Int) (f : List Sl → M Rz) (δ : List Sl) : Option Fl :=
  match δ[k]? with
  | some (.prs (some (ds, es))) => (match pick j ds es with
    | some l => if l.length < sizeLine then bS (f δ) (fun _ => some (.next (δ.set k (.prs none)))) else none
    | none => none)
  | _ => none
def fClrP (k : Nat) (j : Int) (δ : List Sl) : Option Fl :=
  match δ[k]? with
  | some (.prs _) => (match pick j () () with
    | some _ => some (.next (δ.set k (.prs none)))
    | none => none)
  | _ => none
end
end D3

set_option Elab.async false
set_option linter.all false
set_option maxRecDepth 100000
set_option maxHeartbeats 4000000
/-! x = l.pop(), l.extend(m), a text of the module -/
namespace D3
open PySem PySem.Spec PyProof.Rows L2 L3
variable [Ecx]
theorem hasC_str {K : PySem.W.Frag} {mg : Str → Option Value} {x s : Str} {t : Tok} (h : mg x = some (.str s t)) : HasC K mg x (.str s) := ⟨.str s, _, h, ⟨t, rfl⟩, fun _ => .str s⟩
section
variable {X : Cx} {E : XK} {K : PySem.W.Frag}
def fPopTo (i k : Nat) (δ : List Sl) : Option Fl := fMut k (fun ds => match ds.getLast? with
  | some d => some (.next ((δ.set k (.own ds.dropLast)).set i (.dat d)))
  | none => none) δ
def newOf (x : Rz) : Option (List PyData) :=
  match x with
  | .new ds => some ds
  | .var ds => some ds
  | _ => none
def fExt (k : Nat) (f : List Sl → M Rz) (δ : List Sl) : Option Fl := fMut k (fun ds => bS (f δ) fun x => match newOf x with
  | some es => if ds.length + es.length ≤ sizeLine then some (.next (δ.set k (.own (ds ++ es)))) else none
  | none => none) δ
end
end D3

set_option Elab.async false
set_option linter.all false
set_option maxRecDepth 100000
set_option maxHeartbeats 4000000
/-! name = a comprehension whose name is a name of the def -/
namespace D3
open PySem PySem.Spec PyProof.Rows L2 L3
variable [Ecx]
section
variable {X : Cx} {E : XK} {K : PySem.W.Frag}
end
end D3

set_option Elab.async false
set_option linter.all false
set_option maxRecDepth 100000
set_option maxHeartbeats 4000000
/-! all(l), any(l) -/
namespace D3
open PySem PySem.Spec PyProof.Rows L2 L3
variable [Ecx]
section
variable {X : Cx} {E : XK} {K : PySem.W.Frag}
def blsOf : List PyData → Option (List Bool)
  | [] => some []
  | .bool b :: r => (match blsOf r with | some bs => some (b :: bs) | none => none)
  | _ => none
theorem blsOf_ok {H : Hp} : ∀ {xs : List V} {ds : List PyData} {bs : List Bool}, DVs K H xs ds → blsOf ds = some bs → xs = bs.map V.bl
  | _, _, _, .nil, h => by cases h; rfl
  | _, _, bs, .cons (d := d) r t, h => by
    cases r with
    | bl b =>
      unfold blsOf at h
      split at h
      · rename_i bs' e
        cases h
        rw [blsOf_ok t e]; rfl
      · cases h
    | _ => cases h
def qOf (q : List Bool → Bool) (x : Rz) : M Rz :=
  match x.d? with
  | some (.list ds) => (match blsOf ds with | some bs => okM (.dat (.bool (q bs))) | none => none)
  | _ => none
theorem cd_q {q : List Bool → Bool} : CallD K E (fun xs H Q => ∃ (p : Addr) (bs : List Bool), xs = [.ref p] ∧ SqL K H p (bs.map V.bl) ∧ Q (.bl (q bs)) H) (g1 (qOf q)) := by
  refine cd1 (r := fun v H Q => ∃ (p : Addr) (bs : List Bool), [v] = [V.ref p] ∧ SqL K H p (bs.map V.bl) ∧ Q (.bl (q bs)) H) (fun H0 σ H δ S Hs v x z Q L rv h g => ?_) (fun _ _ _ h => h)
  unfold qOf at h
  split at h
  · rename_i ds e
    split at h
    · rename_i bs e2
      cases h
      have dv := rv.full e
      cases dv with
      | lst hs hx =>
        rename_i a xs
        rw [blsOf_ok hx e2] at hs
        exact ⟨a, bs, rfl, hs, g _ H S .refl (.bl _)⟩
    · cases h
  · cases h
def allB (bs : List Bool) : Bool := bs.all id
def anyB (bs : List Bool) : Bool := bs.any id
theorem cd_all : CallD K E (fun xs H Q => ∃ (p : Addr) (bs : List Bool), xs = [.ref p] ∧ SqL K H p (bs.map V.bl) ∧ Q (.bl (bs.all id)) H) (g1 (qOf allB)) := cd_q (q := allB)
end
end D3

set_option Elab.async false
set_option linter.all false
set_option maxRecDepth 100000
set_option maxHeartbeats 4000000
namespace D3
open PySem PySem.Spec PyProof.Rows L2 L3
variable [Ecx]
section
variable {X : Cx} {E : XK} {K : PySem.W.Frag}
/-! ### a new list put into another thing: changed no more -/
def fzOf : Rz → Rz
  | .new ds => .dat (.list ds)
  | x => x
def fFz (f : List Sl → M Rz) (δ : List Sl) : M Rz := bnd (f δ) fun x => okM (fzOf x)
end
end D3

set_option Elab.async false
set_option linter.all false
set_option maxRecDepth 100000
set_option maxHeartbeats 4000000
namespace D3
open PySem PySem.Spec PyProof.Rows L2 L3
variable [Ecx]
section
variable {X : Cx} {E : XK} {K : PySem.W.Frag}
/-! ### // of any size -/
noncomputable def gFdivN (i j : Int) : Option PyData := if j ≠ 0 then some (.int (i.fdiv j)) else none
end
end D3

set_option Elab.async false
set_option linter.all false
set_option maxRecDepth 100000
set_option maxHeartbeats 4000000
namespace D3
open PySem PySem.Spec PyProof.Rows L2 L3
variable [Ecx]
section
variable {X : Cx} {E : XK} {K : PySem.W.Frag}
/-! ### f() -/
/-! ### for a, b in zip(l, m) -/
def zipD (ds es : List PyData) : List PyData := List.zipWith (fun d e => PyData.tuple [d, e]) ds es
def fForZ (fa : List Sl → M (List Rz)) (g : PyData → List Sl → Option (List Sl)) (b : List Sl → Option Fl) (δ : List Sl) : Option Fl := bS (fa δ) fun zs => match zs with
  | [.dat (.list ds), .dat (.list es)] => forN g b (zipD ds es) δ
  | _ => none
end
end D3

set_option Elab.async false
set_option linter.all false
set_option maxRecDepth 100000
set_option maxHeartbeats 4000000
namespace D3
open PySem PySem.Spec PyProof.Rows L2 L3
variable [Ecx]
section
variable {X : Cx} {E : XK} {K : PySem.W.Frag}
/-! ### [e for a, b in zip(l, m)] -/
def fLC2Z (fa : List Sl → M (List Rz)) (fe : List Sl → M Rz) (δ : List Sl) : M Rz := bnd (fa δ) fun zs => match zs with
  | [.dat (.list ds), .dat (.list es)] => if (zipD ds es).length < sizeLine then (match lcN2 fe δ (zipD ds es) with | some ds => okM (.new ds) | none => none) else none
  | _ => none
end
end D3

set_option Elab.async false
set_option linter.all false
set_option maxRecDepth 100000
set_option maxHeartbeats 4000000
/-! texts as data -/
namespace D3
open PySem PySem.Spec PyProof.Rows L2 L3
variable [Ecx]
section
variable {X : Cx} {E : XK} {K : PySem.W.Frag}
def gAddS (x y : Rz) : M Rz := match x.d?, y.d? with
  | some (.str i), some (.str j) => if i.length + j.length ≤ sizeLine then okM (.dat (.str (i ++ j))) else none
  | _, _ => none
theorem od_addS : OpD K E (fun x y H Q => ∃ i j, x = .str i ∧ y = .str j ∧ i.length + j.length ≤ sizeLine ∧ Q (.str (i ++ j)) H) gAddS := by
  intro H0 σ H δ S Ha Hb v w x y z Q L rx ry h q
  unfold gAddS at h
  split at h
  · rename_i i j e1 e2
    split at h
    · rename_i hz
      cases h
      have d1 := rx.full e1
      have d2 := ry.full e2
      cases d1
      cases d2
      exact ⟨i, j, rfl, rfl, hz, q _ H S .refl (.str _)⟩
    · cases h
  · cases h
def gMulS (x y : Rz) : M Rz := match x.d?, y.d? with
  | some (.str i), some (.int n) => if n = 0 ∨ n = 1 then okM (.dat (.str (if n = 0 then Str.empty else i))) else none
  | _, _ => none
def strOf (x : Rz) : M Rz := match x.d? with
  | some (.int i) => if i.natAbs.log2 < 1920 then okM (.dat (.str (toString i))) else none
  | _ => none
theorem cd_strI : CallD K E (fun xs H Q => ∃ i, xs = [.int i] ∧ i.natAbs.log2 < 1920 ∧ Q (.str (toString i)) H) (g1 strOf) := by
  refine cd1 (r := fun v H Q => ∃ i, [v] = [V.int i] ∧ i.natAbs.log2 < 1920 ∧ Q (.str (toString i)) H) (fun H0 σ H δ S Hs v x z Q L rv h q => ?_) (fun _ _ _ h => h)
  unfold strOf at h
  split at h
  · rename_i i e
    split at h
    · rename_i hz
      cases h
      have d := rv.full e
      cases d
      exact ⟨i, rfl, hz, q _ H S .refl (.str _)⟩
    · cases h
  · cases h
def strsOf : List PyData → Option (List Str)
  | [] => some []
  | .str b :: r => (match strsOf r with | some bs => some (b :: bs) | none => none)
  | _ => none
def gJoin (sep : Str) (x : Rz) : M Rz := match x.d? with
  | some (.list ds) => (match strsOf ds with
    | some ys => if (ys.map (fun y : Str => y.length)).sum + ys.length * sep.length ≤ 16777216 then okM (.dat (.str (Txt.join sep ys))) else none
    | none => none)
  | _ => none
end
end D3

set_option Elab.async false
set_option linter.all false
set_option maxRecDepth 100000
set_option maxHeartbeats 4000000
/-! texts as data: starts, parts, signs, int -/
namespace D3
open PySem PySem.Spec PyProof.Rows L2 L3
variable [Ecx]
section
variable {X : Cx} {E : XK} {K : PySem.W.Frag}
def gInS (neg : Bool) (x y : Rz) : M Rz := match x.d?, y.d? with
  | some (.str i), some (.str j) => okM (.dat (.bool (if neg then !(!(Builtin.Str.occurrences j i 0 j.length 1).isEmpty) else !(Builtin.Str.occurrences j i 0 j.length 1).isEmpty)))
  | _, _ => none
theorem od_inS : OpD K E (fun x y H Q => ∃ i j, x = .str i ∧ y = .str j ∧ Q (.bl (!(Builtin.Str.occurrences j i 0 j.length 1).isEmpty)) H) (gInS false) := by
  intro H0 σ H δ S Ha Hb v w x y z Q L rx ry h q
  unfold gInS at h
  split at h
  · rename_i i j e1 e2
    cases h
    have d1 := rx.full e1
    have d2 := ry.full e2
    cases d1
    cases d2
    exact ⟨i, j, rfl, rfl, q _ H S .refl (.bl _)⟩
  · cases h
def lenS (x : Rz) : M Rz := match x.d? with
  | some (.str z) => if z.length ≤ sizeLine then okM (.dat (.int z.length)) else none
  | _ => none
theorem cd_lenS : CallD K E (fun xs H Q => ∃ z, xs = [.str z] ∧ z.length ≤ sizeLine ∧ Q (.int z.length) H) (g1 lenS) := by
  refine cd1 (r := fun v H Q => ∃ z : Str, [v] = [V.str z] ∧ z.length ≤ sizeLine ∧ Q (.int z.length) H) (fun H0 σ H δ S Hs v x z Q L rv h q => ?_) (fun _ _ _ h => h)
  unfold lenS at h
  split at h
  · rename_i i e
    split at h
    · rename_i hz
      cases h
      have d := rv.full e
      cases d
      exact ⟨i, rfl, hz, q _ H S .refl (.int _)⟩
    · cases h
  · cases h
def intS (x : Rz) : M Rz := match x.d? with
  | some (.str z) => (match intText? z with | some n => if z.length ≤ 640 then okM (.dat (.int n)) else none | none => none)
  | _ => none
theorem cd_intS : CallD K E (fun xs H Q => ∃ z n, xs = [.str z] ∧ intText? z = some n ∧ z.length ≤ 640 ∧ Q (.int n) H) (g1 intS) := by
  refine cd1 (r := fun v H Q => ∃ z n, [v] = [V.str z] ∧ intText? z = some n ∧ z.length ≤ 640 ∧ Q (.int n) H) (fun H0 σ H δ S Hs v x z Q L rv h q => ?_) (fun _ _ _ h => h)
  unfold intS at h
  split at h
  · rename_i i e
    split at h
    · rename_i n en
      split at h
      · rename_i hz
        cases h
        have d := rv.full e
        cases d
        exact ⟨i, n, rfl, en, hz, q _ H S .refl (.int _)⟩
      · cases h
    · cases h
  · cases h
def gSlS (x : Rz) (lo hi : Option Int) : M Rz := match x.d?, lo, hi with
  | some (.str a), some i, none => if (Txt.slice a (some i) none).length ≤ sizeLine then okM (.dat (.str (Txt.slice a (some i) none))) else none
  | _, _, _ => none
theorem sd_str : SlD K E (fun x lo hi H Q => ∃ a i, x = .str a ∧ lo = some i ∧ hi = none ∧ (Txt.slice a (some i) none).length ≤ sizeLine ∧ Q (.str (Txt.slice a (some i) none)) H) gSlS := by
  intro H0 σ H δ S Hs v x lo hi z Q L rv h q
  unfold gSlS at h
  split at h
  · rename_i a i e
    split at h
    · rename_i hz
      cases h
      have d := rv.full e
      cases d
      exact ⟨a, i, rfl, rfl, rfl, hz, q _ H S .refl (.str _)⟩
    · cases h
  · cases h
def gStarts (b : Str) (x : Rz) : M Rz := match x.d? with
  | some (.str a) => okM (.dat (.bool (decide (0 + b.length ≤ a.length) && Builtin.Str.subAt a b 0)))
  | _ => none
theorem de_starts {b : Str} {o : Expr} {f : List Sl → M Rz} {bpos : Pos} {jj apos cpos} (ho : DE X E o f) (hs' : starEach [Expr.Constant (.str b) jj bpos] X.env = (false, eval (.Constant (.str b) jj bpos) X.env) :: starEach [] X.env := by rfl)
    (hbase : attributeBase o "startswith" X.env (eval o X.env) = eval o X.env := by rfl)
    (hfew : ((backTo cpos (starEach [Expr.Constant (.str b) jj bpos] X.env)).all (fun x => !x.1) && (backToKw cpos (keywordEach [] X.env)).all (fun x => x.1.isSome)
      && decide ([Expr.Constant (.str b) jj bpos].length + ([] : List Keyword).length + (if ([] : List Keyword).isEmpty then 0 else 1) < 30)) = true := by rfl)
    (hline : (apos.endLine == cpos.line) = true := by rfl) (hplain : (backTo cpos (starEach [] X.env)).any (·.1) = false := by rfl) :
    DE X E (.Call (.Attribute o "startswith" apos) [.Constant (.str b) jj bpos] [] cpos) (fU (gStarts b) f) := by
  obtain ⟨t, a, k⟩ := ho
  refine ⟨_, pe_bm PySem.F.plainAttrs_str PySem.F.slot_str_startswith PySem.F.type_str_startswith mt_starts a (pa_cons pe_str pa_nil hs') hbase hfew hline hs' hplain, fun H0 σ H δ S Q z L h q => ?_⟩
  rcases bnd_inv h with ⟨x, h1, h⟩ | ⟨C, h1, rfl⟩
  · refine k H0 σ H δ S _ _ L h1 fun v H1 S1 g1 rv => ?_
    unfold gStarts at h
    split at h
    · rename_i a' e1
      cases h
      have d := rv.full e1
      cases d
      exact ⟨rfl, a', b, rfl, rfl, q _ H1 S1 g1 (.bl _)⟩
    · cases h
  · exact k H0 σ H δ S _ _ L h1 q
def gPart (b : Str) (x : Rz) : M Rz := match x.d? with
  | some (.str a) => if (b.length == 0) = false ∧ a.length ≤ sizeLine then okM (.dat (.tuple [.str (Txt.partition a b).1, .str (Txt.partition a b).2.1, .str (Txt.partition a b).2.2])) else none
  | _ => none
theorem de_part {b : Str} {o : Expr} {f : List Sl → M Rz} {bpos : Pos} {jj apos cpos} (ho : DE X E o f) (hs' : starEach [Expr.Constant (.str b) jj bpos] X.env = (false, eval (.Constant (.str b) jj bpos) X.env) :: starEach [] X.env := by rfl)
    (hbase : attributeBase o "partition" X.env (eval o X.env) = eval o X.env := by rfl)
    (hfew : ((backTo cpos (starEach [Expr.Constant (.str b) jj bpos] X.env)).all (fun x => !x.1) && (backToKw cpos (keywordEach [] X.env)).all (fun x => x.1.isSome)
      && decide ([Expr.Constant (.str b) jj bpos].length + ([] : List Keyword).length + (if ([] : List Keyword).isEmpty then 0 else 1) < 30)) = true := by rfl)
    (hline : (apos.endLine == cpos.line) = true := by rfl) (hplain : (backTo cpos (starEach [] X.env)).any (·.1) = false := by rfl) :
    DE X E (.Call (.Attribute o "partition" apos) [.Constant (.str b) jj bpos] [] cpos) (fU (gPart b) f) := by
  obtain ⟨t, a, k⟩ := ho
  refine ⟨_, pe_bm PySem.F.plainAttrs_str PySem.F.slot_str_partition PySem.F.type_str_partition mt_partition a (pa_cons pe_str pa_nil hs') hbase hfew hline hs' hplain, fun H0 σ H δ S Q z L h q => ?_⟩
  rcases bnd_inv h with ⟨x, h1, h⟩ | ⟨C, h1, rfl⟩
  · refine k H0 σ H δ S _ _ L h1 fun v H1 S1 g1 rv => ?_
    unfold gPart at h
    split at h
    · rename_i a' e1
      split at h
      · rename_i hz
        cases h
        have d := rv.full e1
        cases d
        refine ⟨rfl, a', b, rfl, rfl, hz.1, hz.2, fun p hp => ?_⟩
        have L1 := L.ext g1
        have g : Ext H1 S1 (upd H1 p (.tup [.str (Txt.partition a' b).1, .str (Txt.partition a' b).2.1, .str (Txt.partition a' b).2.2])) S1 := Ext.same (same_new hp _)
        exact q _ _ S1 (g1.trans g) (.tup (SqT.of (same_upd_hid L1.lst hp)) (.cons (.str _) (.cons (.str _) (.cons (.str _) .nil))))
      · cases h
    · cases h
  · exact k H0 σ H δ S _ _ L h1 q
def chL (z : Str) : List PyData := z.cps.toList.map fun c => .str ⟨#[c]⟩
def itemsS (x : Rz) : M (List PyData) := match x.d? with
  | some (.str z) => if (z.cps.all fun c => decide (c < 128)) = true then okM (chL z) else none
  | _ => none
theorem it_str {Hh : Hp} (z : Str) : ItOk K (Its z) Hh (chL z) := by
  have hl : (chL z).length = z.cps.size := by unfold chL; rw [List.length_map, Array.length_toList]
  refine ⟨fun i H g hi => by rw [hl] at hi; exact hi, fun i H x H' d g e y => ?_, fun i H g hi => by rw [hl] at hi; exact hi⟩
  obtain ⟨rfl, c, hc, rfl⟩ := y
  unfold chL at e
  rw [List.getElem?_map, Array.getElem?_toList, hc] at e
  cases e
  exact ⟨rfl, .str _⟩
theorem di_str {tg e : Expr} {f : List Sl → M Rz} (h : DE X E e f) : DI X E tg e (fI itemsS f) := by
  obtain ⟨t, a, b⟩ := h
  refine ⟨_, pi_str a, fun H0 σ H δ S R r L h q => ?_⟩
  rcases bnd_inv h with ⟨x, h1, h⟩ | ⟨C, h1, rfl⟩
  · refine b H0 σ H δ S _ _ L h1 fun v H1 S1 g1 rv => ?_
    unfold itemsS at h
    split at h
    · rename_i z e1
      split at h
      · rename_i ha
        cases h
        have d := rv.full e1
        cases d
        exact ⟨z, rfl, ha, q _ H1 S1 g1 (it_str z)⟩
      · cases h
    · cases h
  · exact b H0 σ H δ S _ _ L h1 q
end
end D3

set_option Elab.async false
set_option linter.all false
set_option maxRecDepth 100000
set_option maxHeartbeats 4000000
/-! a call of a def that is handed no lists: what it tells, lists within it too, is new -/
namespace D3
open PySem PySem.Spec PyProof.Rows L2 L3
/-- the heap without its lists -/
def dl (H : Hp) : Hp := fun b => match H b with
  | some (.lst _) => none
  | o => o
/-- and with them again -/
def rst (H H1 : Hp) : Hp := fun b => match H b with
  | some (.lst xs) => some (.lst xs)
  | _ => H1 b
section
variable {P : Program} {w : World}
end
variable [Ecx]
/-- a def that is handed no lists -/
def sF (F : List PyData → M Out) (ds : List PyData) : M Out := if noLs ds = true then (match F ds with
  | some (.ok (.val d)) => some (.ok (.mine d))
  | some (.ok (.lsts es)) => some (.ok (.newls es))
  | r => r) else none
end D3

set_option Elab.async false
set_option linter.all false
set_option maxRecDepth 100000
set_option maxHeartbeats 4000000
/-! for x in reversed(l), l a list -/
namespace D3
open PySem PySem.Spec PyProof.Rows L2 L3
variable [Ecx]
section
variable {X : Cx} {E : XK} {K : PySem.W.Frag}
def itemsRevL (x : Rz) : M (List PyData) :=
  match x with
  | .dat (.list ds) => okM ds.reverse
  | _ => none
end
end D3

set_option Elab.async false
set_option linter.all false
set_option maxRecDepth 100000
set_option maxHeartbeats 4000000
/-! try with a body of several statements: x = f(..), f(..), if -/
namespace D3
open PySem PySem.Spec PyProof.Rows L2 L3
variable [Ecx]
abbrev TX := (L2.St → XK) → Ends → L2.St → Hp → Prop
def PX (X : Cx) (st : Stmt) (t : TX) : Prop :=
  ∀ (pins : List (Addr × Obj)) (s : Shared) (σ : L2.St) (H : Hp) (D : Ends) (EX : L2.St → XK), Inv X pins σ H s → t EX D σ H → wpAny (model X.prog X.w) X.A (exec st X.env) (SP X pins D) (fun ev s1 => ∃ σ', XPost X pins σ' (EX σ') ev s1) s
def PXs (X : Cx) (st : List Stmt) (t : TX) : Prop :=
  ∀ (pins : List (Addr × Obj)) (s : Shared) (σ : L2.St) (H : Hp) (D : Ends) (EX : L2.St → XK), Inv X pins σ H s → t EX D σ H → wpAny (model X.prog X.w) X.A (execs st X.env) (SP X pins D) (fun ev s1 => ∃ σ', XPost X pins σ' (EX σ') ev s1) s
section
variable {X : Cx} {E : XK} {K : PySem.W.Frag}
def tTryB (K : PySem.W.Frag) (t : TX) (B : Addr) (j : Nat) (ts : TS) : TS := fun D σ H =>
  t (fun σ' C _ H' => ∃ c, C = .ref c ∧ CatchK K c B ∧
    ∀ ea, H' ea = none → ts { nx := fun σ' H2 => D.nx (σ'.set j none) H2, rt := fun _ _ => False } (σ'.set j (some (.ref ea))) (upd H' ea (excO ea (.ref c)))) { nx := D.nx, rt := fun _ _ => False } σ H
/-! the reading -/
inductive Xl where
  | next (δ : List Sl)
  | exc (C : Ex) (δ : List Sl)
def EndX (K : PySem.W.Frag) (EX : L2.St → XK) (H0 : Hp) (D : Ends) : Xl → Prop
  | .next δ => ∀ σ H S, Loc K H0 σ H δ S → D.nx σ H
  | .exc C δ => ∀ σ H S, Loc K H0 σ H δ S → EX σ (.ref (ecx C)) none H
def RdX (K : PySem.W.Frag) (t : TX) (f : List Sl → Option Xl) : Prop :=
  ∀ (H0 : Hp) (σ : L2.St) (H : Hp) (δ : List Sl) (S : Addr → Bool) (D : Ends) (EX : L2.St → XK) (fl : Xl), Loc K H0 σ H δ S → f δ = some fl → EndX K EX H0 D fl → t EX D σ H
def DX (X : Cx) (st : Stmt) (f : List Sl → Option Xl) : Prop := ∃ t, PX X st t ∧ RdX X.K t f
def DXs (X : Cx) (st : List Stmt) (f : List Sl → Option Xl) : Prop := ∃ t, PXs X st t ∧ RdX X.K t f
def xNext (δ : List Sl) : Option Xl := some (.next δ)
def xSeq (f g : List Sl → Option Xl) (δ : List Sl) : Option Xl :=
  match f δ with
  | some (.next δ') => g δ'
  | r => r
def xIf (c : List Sl → M Bool) (f g : List Sl → Option Xl) (δ : List Sl) : Option Xl :=
  match c δ with
  | some (.ok b) => if b = true then f δ else g δ
  | _ => none
def xCal (g : List Rz → M Rz) (fa : List Sl → M (List Rz)) (k : Rz → List Sl → Option (List Sl)) (δ : List Sl) : Option Xl :=
  match fa δ with
  | some (.ok zs) => (match g zs with
    | some (.ok z) => (match k z δ with | some δ' => some (.next δ') | none => none)
    | some (.err C) => some (.exc C δ)
    | none => none)
  | _ => none
def fTryB (cs : Ex → Bool) (f : List Sl → Option Xl) (j : Nat) (b : List Sl → Option Fl) (δ : List Sl) : Option Fl :=
  match f δ with
  | some (.next δ') => some (.next δ')
  | some (.exc C δ') => if cs C = true then afterH j (b (δ'.set j (.exc C))) else none
  | none => none
/-! ### return f(..)[j], f tells a new tuple -/
def fRetFI (n : Nat) (f : List PyData → M Out) (j : Int) (fa : List Sl → M (List Rz)) (δ : List Sl) : Option Fl := bS (fa δ) fun zs => match dsOf zs with
  | some ds => if ds.length = n then bS (f ds) fun o => (match o with
    | .mine (.tuple es) => (match atI es j with | some d => some (.ret (.mine d)) | none => none)
    | _ => none) else none
  | none => none
end
end D3

set_option Elab.async false
set_option linter.all false
set_option maxRecDepth 100000
set_option maxHeartbeats 4000000
/-! ### defs that are handed on, comprehensions over three names, x = l.pop()[j] -/
namespace D3
open PySem PySem.Spec PyProof.Rows L2 L3
variable [Ecx]
/-- a def whose last argument is a def -/
def spV (K : PySem.W.Frag) (n : Nat) (f : Ex → List PyData → M Out) : Sp := fun vs H Q E => ∃ (C : Ex) (ws : List V) (ds : List PyData) (o : Res Out), vs = ws ++ [.ref (ecx C)] ∧ isFn C = true ∧ ws.length = n ∧ DVs K H ws ds ∧ f C ds = some o ∧ EndF K E H Q o
def fnV (n m : Nat) (f : List Sl → Option Fl) (C : Ex) (ds : List PyData) : M Out :=
  if ds.length = n then (match f (ds.map Sl.dat ++ Sl.exc C :: List.replicate m Sl.no) with
    | some (.ret o) => some (.ok o)
    | some (.next _) => some (.ok (.val .none))
    | some (.exc C) => some (.err C)
    | _ => none) else none
section
variable {X : Cx} {E : XK} {K : PySem.W.Frag}
def fFn (C : Ex) (_ : List Sl) : M Rz := okM (.exc C)
/-- the arguments, a def the last of them -/
def vsOf : List Rz → Option (List PyData × Ex)
  | [] => none
  | [.exc C] => if isFn C = true then some ([], C) else none
  | x :: xs => match x.d?, vsOf xs with
    | some d, some (ds, C) => some (d :: ds, C)
    | _, _ => none
def gFV (n : Nat) (f : Ex → List PyData → M Out) (zs : List Rz) : M Rz :=
  match vsOf zs with
  | some (ds, C) => if ds.length = n then bnd (f C ds) fun o => okM (outZ o) else none
  | none => none
/-! ### x is True -/
def gIsB (x y : Rz) : M Rz :=
  match x.d?, y.d? with
  | some (.bool c), some (.bool d) => okM (.dat (.bool (c == d)))
  | some .none, some (.bool _) => okM (.dat (.bool false))
  | _, _ => none
/-! ### a call of a def that a name holds -/
def tCalL (i : Nat) (fa fb : Addr) (spA spB : Sp) (E : XK) (t : TA) : TE := fun σ H Q =>
  (σ[i]? = some (some (.ref fa)) ∧ t σ H fun vs H1 => spA (vs ++ []) H1 Q E) ∨ (σ[i]? = some (some (.ref fb)) ∧ t σ H fun vs H1 => spB (vs ++ []) H1 Q E)
def fCalL (i m : Nat) (FA FB : List PyData → M Out) (fa : List Sl → M (List Rz)) (δ : List Sl) : M Rz :=
  match δ[i]? with
  | some (.exc .fnA) => bnd (fa δ) (gF m FA)
  | some (.exc .fnB) => bnd (fa δ) (gF m FB)
  | _ => none
/-! ### x = l.pop()[j] -/
def fPopIx (i k : Nat) (j : Int) (δ : List Sl) : Option Fl := fMut k (fun ds => match ds.getLast? with
  | some (.tuple es) => (match atI es j with | some d => some (.next ((δ.set k (.own ds.dropLast)).set i (.dat d))) | none => none)
  | _ => none) δ
/-- [elt for x, y in items] -/
def lcN3 (fe : List Sl → M Rz) (δ : List Sl) : List PyData → Option (List PyData)
  | [] => some []
  | .tuple [d1, d2, d3] :: r => (match fe (.dat d1 :: .dat d2 :: .dat d3 :: δ) with
      | some (.ok z) => (match datOf z, lcN3 fe δ r with
        | some e, some es => some (e :: es)
        | _, _ => none)
      | _ => none)
  | _ => none
def fLC3 (fi : List Sl → M (List PyData)) (fe : List Sl → M Rz) (δ : List Sl) : M Rz := bnd (fi δ) fun items => if items.length < sizeLine then (match lcN3 fe δ items with | some ds => okM (.new ds) | none => none) else none
def compChk3 (N : List Str) (x x2 x3 : Str) (sc dsc : Scope) : Bool := compChk2 N x x2 sc dsc && decide (sc.names.lookup x3 = some .local) && !N.contains x3 && decide (x ≠ x3) && decide (x2 ≠ x3)
end
end D3
namespace D3
open PySem L2
end D3

set_option Elab.async false
set_option linter.all false
set_option maxRecDepth 100000
set_option maxHeartbeats 4000000
/-! texts: split; a list of lists of texts -/
namespace D3
open PySem PySem.Spec PyProof.Rows L2 L3
variable [Ecx]
section
variable {X : Cx} {E : XK} {K : PySem.W.Frag}
theorem dvs_strs {H : Hp} : ∀ l : List Str, DVs K H (l.map V.str) (l.map PyData.str)
  | [] => .nil
  | x :: r => .cons (.str x) (dvs_strs r)
def gSplit (b : Str) (x : Rz) : M Rz := match x.d? with
  | some (.str a) => if (b.length == 0) = false ∧ a.length + 2 ≤ sizeLine then okM (.new ((Txt.split a b).map PyData.str)) else none
  | _ => none
theorem de_split {b : Str} {o : Expr} {f : List Sl → M Rz} {bpos : Pos} {jj apos cpos} (ho : DE X E o f) (hs' : starEach [Expr.Constant (.str b) jj bpos] X.env = (false, eval (.Constant (.str b) jj bpos) X.env) :: starEach [] X.env := by rfl)
    (hbase : attributeBase o "split" X.env (eval o X.env) = eval o X.env := by rfl)
    (hfew : ((backTo cpos (starEach [Expr.Constant (.str b) jj bpos] X.env)).all (fun x => !x.1) && (backToKw cpos (keywordEach [] X.env)).all (fun x => x.1.isSome)
      && decide ([Expr.Constant (.str b) jj bpos].length + ([] : List Keyword).length + (if ([] : List Keyword).isEmpty then 0 else 1) < 30)) = true := by rfl)
    (hline : (apos.endLine == cpos.line) = true := by rfl) (hplain : (backTo cpos (starEach [] X.env)).any (·.1) = false := by rfl) :
    DE X E (.Call (.Attribute o "split" apos) [.Constant (.str b) jj bpos] [] cpos) (fU (gSplit b) f) := by
  obtain ⟨t, a, k⟩ := ho
  refine ⟨_, pe_bm PySem.F.plainAttrs_str PySem.F.slot_str_split PySem.F.type_str_split mt_split a (pa_cons pe_str pa_nil hs') hbase hfew hline hs' hplain, fun H0 σ H δ S Q z L h q => ?_⟩
  rcases bnd_inv h with ⟨x, h1, h⟩ | ⟨C, h1, rfl⟩
  · refine k H0 σ H δ S _ _ L h1 fun v H1 S1 g1 rv => ?_
    unfold gSplit at h
    split at h
    · rename_i a' e1
      split at h
      · rename_i hz
        cases h
        have d := rv.full e1
        cases d
        refine ⟨rfl, a', b, rfl, rfl, hz.1, hz.2, fun p hp => ?_⟩
        exact q _ _ (ins S1 p) (g1.trans (Ext.ins hp)) ⟨p, _, rfl, ins_same, g1.up.free hp, upd_same, dvs_strs _⟩
      · cases h
    · cases h
  · exact k H0 σ H δ S _ _ L h1 q
/-! ### found = [[e]]; for w in it: found.append([w]) or found[-1].append(w); return found -/
def nestN (ft : List Sl → M Bool) (j : Nat) (δ : List Sl) : List (List Str) → List Str → List PyData → Option (List (List Str))
  | gs, cur, [] => some (gs ++ [cur])
  | gs, cur, .str w :: r => (match ft (δ.set j (.dat (.str w))) with
    | some (.ok true) => nestN ft j δ (gs ++ [cur]) [w] r
    | some (.ok false) => nestN ft j δ gs (cur ++ [w]) r
    | _ => none)
  | _, _, _ => none
def nsD (gs : List (List Str)) : List PyData := gs.map fun g => .list (g.map PyData.str)
def fNest (k j : Nat) (f0 : List Sl → M Rz) (fi : List Sl → M (List PyData)) (ft : List Sl → M Bool) (δ : List Sl) : Option Fl := bS (f0 δ) fun z => match z.d? with
  | some (.str s0) => bS (fi (δ.set k .no)) fun items => if items.length + 2 < sizeLine ∧ k < δ.length ∧ j < δ.length then (match nestN ft j (δ.set k .no) [] [s0] items with
    | some gs => some (.ret (.newls (nsD gs)))
    | none => none) else none
  | _ => none
structure Nst (H1 H : Hp) (S : Addr → Bool) (a : Addr) (bs : List Addr) (b : Addr) (gs : List (List Str)) (cur : List Str) : Prop where
  ha : H a = some (.lst ((bs ++ [b]).map V.ref))
  hb : H b = some (.lst (cur.map V.str))
  hg : ∀ (i : Nat) (x : Addr) (g : List Str), bs[i]? = some x → gs[i]? = some g → H x = some (.lst (g.map V.str))
  ln : bs.length = gs.length
  ab : a ≠ b
  nb : b ∉ bs
  na : a ∉ bs
  sa : S a = true
  sb : S b = true
  h1 : H1 a = none
  h2 : H1 b = none
  h3 : ∀ x ∈ bs, H1 x = none
theorem Nst.ext {H1 H H' : Hp} {S S' : Addr → Bool} {a b : Addr} {bs : List Addr} {gs : List (List Str)} {cur : List Str} (N : Nst H1 H S a bs b gs cur) (g : Ext H S H' S') : Nst H1 H' S' a bs b gs cur :=
  ⟨g.up _ _ N.ha, g.up _ _ N.hb, fun i x u e1 e2 => g.up _ _ (N.hg i x u e1 e2), N.ln, N.ab, N.nb, N.na, g.sub _ N.sa, g.sub _ N.sb, N.h1, N.h2, N.h3⟩
theorem Nst.inn {H1 H : Hp} {S : Addr → Bool} {a b : Addr} {bs : List Addr} {gs : List (List Str)} {cur : List Str} (N : Nst H1 H S a bs b gs cur) (w : Str) : Nst H1 (upd H b (.lst (cur.map V.str ++ [.str w]))) S a bs b gs (cur ++ [w]) :=
  ⟨by rw [upd_ne N.ab]; exact N.ha, by rw [upd_same, List.map_append]; rfl, fun i x u e1 e2 => by
    have xb : x ≠ b := fun z => by subst z; exact N.nb (List.mem_of_getElem? e1)
    rw [upd_ne xb]; exact N.hg i x u e1 e2, N.ln, N.ab, N.nb, N.na, N.sa, N.sb, N.h1, N.h2, N.h3⟩
theorem Nst.out {H1 H : Hp} {S : Addr → Bool} {a b c : Addr} {bs : List Addr} {gs : List (List Str)} {cur : List Str} (N : Nst H1 H S a bs b gs cur) (w : Str) (hc : H c = some (.lst [.str w])) (sc : S c = true) (n1 : H1 c = none) (ca : a ≠ c) (cb : b ≠ c) (cs : c ∉ bs) :
    Nst H1 (upd H a (.lst ((bs ++ [b]).map V.ref ++ [.ref c]))) S a (bs ++ [b]) c (gs ++ [cur]) [w] := by
  refine ⟨by rw [upd_same, List.map_append (l₁ := bs ++ [b])]; rfl, by rw [upd_ne ca.symm]; exact hc, fun i x u e1 e2 => ?_, by rw [List.length_append, List.length_append, N.ln]; rfl, ca, ?_, ?_, N.sa, sc, N.h1, n1, ?_⟩
  · have xa : x ≠ a := fun z => by
      subst z
      rcases List.mem_append.mp (List.mem_of_getElem? e1) with h | h
      · exact N.na h
      · exact N.ab (List.mem_singleton.mp h)
    rw [upd_ne xa]
    by_cases ci : i < bs.length
    · rw [List.getElem?_append_left ci] at e1
      rw [List.getElem?_append_left (by rw [← N.ln]; exact ci)] at e2
      exact N.hg i x u e1 e2
    · rw [List.getElem?_append_right (by omega)] at e1
      rw [List.getElem?_append_right (by rw [← N.ln]; omega), ← N.ln] at e2
      cases q : i - bs.length with
      | zero => rw [q] at e1 e2; cases e1; cases e2; exact N.hb
      | succ m => rw [q] at e1; simp at e1
  · intro h
    rcases List.mem_append.mp h with h | h
    · exact cs h
    · exact cb (List.mem_singleton.mp h).symm
  · intro h
    rcases List.mem_append.mp h with h | h
    · exact N.na h
    · exact N.ab (List.mem_singleton.mp h)
  · intro x hx
    rcases List.mem_append.mp hx with h | h
    · exact N.h3 x h
    · rw [List.mem_singleton.mp h]; exact N.h2
theorem Nst.here {H1 H : Hp} {S : Addr → Bool} {a b : Addr} {bs : List Addr} {gs : List (List Str)} {cur : List Str} (N : Nst H1 H S a bs b gs cur) {x : Addr} (hx : x ∈ bs) : H x ≠ none := by
  obtain ⟨i, hi, e⟩ := List.getElem_of_mem hx
  have e1 : bs[i]? = some x := by rw [List.getElem?_eq_getElem hi, e]
  obtain ⟨g, eg⟩ : ∃ g, gs[i]? = some g := ⟨_, List.getElem?_eq_getElem (by rw [← N.ln]; exact hi)⟩
  rw [N.hg i x g e1 eg]; exact fun z => nomatch z
theorem Nst.dvs {H0 H1 H : Hp} {S : Addr → Bool} {a b : Addr} {bs : List Addr} {gs : List (List Str)} {cur : List Str} (N : Nst H1 H S a bs b gs cur) (g : Same H0 H1) : DVs K (newL H0 (wo H a)) ((bs ++ [b]).map V.ref) (nsD (gs ++ [cur])) := by
  have at_ : ∀ (x : Addr) (u : List Str), H1 x = none → x ≠ a → H x = some (.lst (u.map V.str)) → DV K (newL H0 (wo H a)) (.ref x) (.list (u.map PyData.str)) := fun x u n ne e =>
    .lst (SqL.of (by rw [newL_new (g.free n)]; unfold wo; rw [if_neg ne]; exact e)) (dvs_strs u)
  have all : ∀ (xs : List Addr) (us : List (List Str)), xs.length = us.length → (∀ (i : Nat) (x : Addr) (u : List Str), xs[i]? = some x → us[i]? = some u → H1 x = none ∧ x ≠ a ∧ H x = some (.lst (u.map V.str))) → DVs K (newL H0 (wo H a)) (xs.map V.ref) (nsD us) := by
    intro xs
    induction xs with
    | nil => intro us hl _; cases us with | nil => exact .nil | cons u r => cases hl
    | cons x r ih =>
      intro us hl h
      cases us with
      | nil => cases hl
      | cons u us =>
        obtain ⟨h1, h2, h3⟩ := h 0 x u rfl rfl
        exact .cons (at_ x u h1 h2 h3) (ih us (by simpa using hl) fun i x' u' e1 e2 => h (i + 1) x' u' e1 e2)
  refine all _ _ (by rw [List.length_append, List.length_append, N.ln]; rfl) fun i x u e1 e2 => ?_
  by_cases ci : i < bs.length
  · rw [List.getElem?_append_left ci] at e1
    rw [List.getElem?_append_left (by rw [← N.ln]; exact ci)] at e2
    have m := List.mem_of_getElem? e1
    exact ⟨N.h3 x m, fun z => N.na (z ▸ m), N.hg i x u e1 e2⟩
  · rw [List.getElem?_append_right (by omega)] at e1
    rw [List.getElem?_append_right (by rw [← N.ln]; omega), ← N.ln] at e2
    cases q : i - bs.length with
    | zero => rw [q] at e1 e2; cases e1; cases e2; exact ⟨N.h2, N.ab.symm, N.hb⟩
    | succ m => rw [q] at e1; simp at e1
theorem Ext.mutN {H1 H : Hp} {S1 S : Addr → Bool} {a : Addr} {xs : List V} (g : Ext H1 S1 H S) (n : H1 a = none) (sa : S a = true) : Ext H1 S1 (upd H a (.lst xs)) S := by
  refine ⟨fun b o e => ?_, by rw [hid_mut sa]; exact g.hd, g.sub, fun b hb => ?_⟩
  · have : b ≠ a := by intro z; subst z; rw [n] at e; cases e
    rw [upd_ne this]; exact g.up b o e
  · rcases g.new b hb with z | ⟨z, w⟩
    · exact .inl z
    · refine .inr ⟨z, ?_⟩
      by_cases c : b = a
      · subst c; exact ⟨_, upd_same⟩
      · rw [upd_ne c]; exact w
theorem same_mut {Hh H : Hp} {a : Addr} {o : HO} (g : Same Hh H) (n : Hh a = none) : Same Hh (upd H a o) := fun b u e => by
  have : b ≠ a := by intro z; subst z; rw [n] at e; cases e
  rw [upd_ne this]; exact g b u e
theorem atI_lastV {α : Type} (r : List α) (a : α) : L2.atI (r ++ [a]) (-1) = some a := by
  unfold L2.atI
  have : L2.ixN (r ++ [a]).length (-1) = some r.length := by
    unfold L2.ixN
    rw [List.length_append, List.length_singleton, if_neg (by omega), if_pos (by omega)]
    congr 1
    omega
  rw [this]
  show (r ++ [a])[r.length]? = some a
  rw [List.getElem?_append_right (Nat.le_refl _), Nat.sub_self]; rfl
theorem dss_nest (k j : Nat) {n : Nat} {x y : Str} {e0 it test : Expr} {f0 : List Sl → M Rz} {fi : List Sl → M (List PyData)} {ft : List Sl → M Bool} {p1 p2 p3 p4 p5 p6 p7 p8 p9 p10 p11 p12 p13 p14 p15 p16 p17 p18 p19 p20 p21 : Pos} {jj : Nat} (Z : Fit n X E)
    (h0 : DE X E e0 f0) (hi : DI X E (.Name y p5) it fi) (ht : DT X E test ft) (hjk : k ≠ j)
    (hk : X.N[k]? = some x := by rfl) (hj : X.N[j]? = some y := by rfl) (hlx : L2.Loc X.env.scope x := by first | exact Or.inl rfl | exact Or.inr rfl) (hly : L2.Loc X.env.scope y := by first | exact Or.inl rfl | exact Or.inr rfl)
    (hfx : X.fn x = true ∨ X.env.scope.names.lookup x = some .local := by first | exact .inl rfl | exact .inr rfl) (hfy : X.fn y = true ∨ X.env.scope.names.lookup y = some .local := by first | exact .inl rfl | exact .inr rfl)
    (hvx : Vis X.env.scope x := by first | exact Or.inl rfl | exact Or.inr (Or.inl rfl) | exact Or.inr (Or.inr rfl)) (hvy : Vis X.env.scope y := by first | exact Or.inl rfl | exact Or.inr (Or.inl rfl) | exact Or.inr (Or.inr rfl))
    (hdx : (x == ("__debug__" : Str)) = false := by decide) (hcx : (x == ("__classdict__" : Str)) = false := by decide) (hdy : (y == ("__debug__" : Str)) = false := by decide) (hcy : (y == ("__classdict__" : Str)) = false := by decide)
    (hs1 : swapsWith (.List [.List [e0] p1] p2) (some (.Name x p3)) p4.line X.env = pure false := by rfl)
    (st1 : starEach [e0] X.env = (false, eval e0 X.env) :: starEach [] X.env := by rfl) (st2 : starEach [.List [e0] p1] X.env = (false, eval (.List [e0] p1) X.env) :: starEach [] X.env := by rfl)
    (st3 : starEach [.Name y p8] X.env = (false, eval (.Name y p8) X.env) :: starEach [] X.env := by rfl) (st4 : starEach [.List [.Name y p8] p9] X.env = (false, eval (.List [.Name y p8] p9) X.env) :: starEach [] X.env := by rfl)
    (st5 : starEach [.Name y p17] X.env = (false, eval (.Name y p17) X.env) :: starEach [] X.env := by rfl)
    (hs2 : swapsWith (.Call (.Attribute (.Name x p6) "append" p7) [.List [.Name y p8] p9] [] p10) none p11.line X.env = pure false := by rfl)
    (hb2 : attributeBase (.Name x p6) "append" X.env (eval (.Name x p6) X.env) = eval (.Name x p6) X.env := by rfl)
    (hw2 : ((backTo p10 (starEach [.List [.Name y p8] p9] X.env)).all (fun x => !x.1) && (backToKw p10 (keywordEach [] X.env)).all (fun x => x.1.isSome)
      && decide ([Expr.List [.Name y p8] p9].length + ([] : List Keyword).length + (if ([] : List Keyword).isEmpty then 0 else 1) < 30)) = true := by rfl)
    (hl2 : (p7.endLine == p10.line) = true := by rfl) (hp2 : (backTo p10 (starEach [] X.env)).any (·.1) = false := by rfl)
    (hs3 : swapsWith (.Call (.Attribute (.Subscript (.Name x p12) (.UnaryOp .USub (.Constant (.int 1) jj p13) p14) p15) "append" p16) [.Name y p17] [] p18) none p19.line X.env = pure false := by rfl)
    (hb3 : attributeBase (.Subscript (.Name x p12) (.UnaryOp .USub (.Constant (.int 1) jj p13) p14) p15) "append" X.env (eval (.Subscript (.Name x p12) (.UnaryOp .USub (.Constant (.int 1) jj p13) p14) p15) X.env) = eval (.Subscript (.Name x p12) (.UnaryOp .USub (.Constant (.int 1) jj p13) p14) p15) X.env := by rfl)
    (hw3 : ((backTo p18 (starEach [.Name y p17] X.env)).all (fun x => !x.1) && (backToKw p18 (keywordEach [] X.env)).all (fun x => x.1.isSome)
      && decide ([Expr.Name y p17].length + ([] : List Keyword).length + (if ([] : List Keyword).isEmpty then 0 else 1) < 30)) = true := by rfl)
    (hl3 : (p16.endLine == p18.line) = true := by rfl) (hp3 : (backTo p18 (starEach [] X.env)).any (·.1) = false := by rfl)
    (hfs : ∀ v, foldedSetIterable it X.env v = pure v := by intro _; rfl) {p22 p23 : Pos} :
    DSs X E [.Assign [.Name x p3] (.List [.List [e0] p1] p2) p4,
      .For (.Name y p5) it [.If test [.Expr (.Call (.Attribute (.Name x p6) "append" p7) [.List [.Name y p8] p9] [] p10) p11]
        [.Expr (.Call (.Attribute (.Subscript (.Name x p12) (.UnaryOp .USub (.Constant (.int 1) jj p13) p14) p15) "append" p16) [.Name y p17] [] p18) p19] p20] [] p21,
      .Return (some (.Name x p22)) p23] (fNest k j f0 fi ft) := by
  obtain ⟨t0, a0, b0⟩ := h0
  obtain ⟨wi, i1, i2⟩ := hi
  obtain ⟨tt, c1, c2⟩ := ht
  refine ⟨_, pss_cons (ps_set Z.nd hk hlx (pe_lst (pa_cons (pe_lst (pa_cons a0 pa_nil st1)) pa_nil st2)) hs1 hfx) (pss_cons (ps_for Z.po Z.cm i1 (pg_name Z.nd hj hly hfy)
    (pss_one (ps_if c1
      (pss_one (ps_expr (pe_bm PySem.F.plainAttrs_list PySem.F.slot_list_append PySem.F.type_list_append mt_append (pe_var hk hvx hdx hcx) (pa_cons (pe_lst (pa_cons (pe_var hj hvy hdy hcy) pa_nil st3)) pa_nil st4) hb2 hw2 hl2 st4 hp2) hs2))
      (pss_one (ps_expr (pe_bm PySem.F.plainAttrs_list PySem.F.slot_list_append PySem.F.type_list_append mt_append (pe_ix ix_seq (pe_var hk hvx hdx hcx) (pe_un un_neg pe_int) (fun _ _ => rfl)) (pa_cons (pe_var hj hvy hdy hcy) pa_nil st5) hb3 hw3 hl3 st5 hp3) hs3)))) hfs)
    (pss_one (ps_ret (pe_var hk hvx hdx hcx)))), fun H0 σ H δ S D fl L h q => ?_⟩
  have z1 : (1 : Nat) ≤ sizeLine := by rw [sizeLine_eq]; decide
  rcases bS_inv h with ⟨z, h1, h⟩ | ⟨C, h1, rfl⟩
  · refine b0 H0 σ H δ S _ _ L h1 fun v H1 S1 g1 rv => ⟨z1, fun pb hpb => ⟨z1, fun pa hpa => ?_⟩⟩
    split at h
    · rename_i s0 es0
      have dv := rv.full es0
      cases dv
      have L1 := L.ext g1
      have pab : pa ≠ pb := fun z => by subst z; rw [upd_same] at hpa; cases hpa
      have hpa1 : H1 pa = none := by rw [upd_ne pab] at hpa; exact hpa
      have g2 : Ext H1 S1 (upd (upd H1 pb (.lst [.str s0])) pa (.lst [.ref pb])) (ins (ins S1 pb) pa) := (Ext.ins hpb).trans (Ext.ins hpa)
      have L0 : Loc X.K H0 (σ.set k (some (.ref pa))) H1 (δ.set k .no) S1 := L1.put (fun _ z => nomatch z) (fun _ z => nomatch z) (fun _ z => nomatch z)
      have klen : k < σ.length ∨ ¬ k < σ.length := Nat.lt_or_ge k σ.length |>.imp id Nat.not_lt.mpr
      rcases bS_inv h with ⟨items, h2, h⟩ | ⟨C, h2, rfl⟩
      · refine i2 H0 _ _ _ _ _ _ (L0.ext g2) h2 fun J H3 S3 g3 io => ?_
        split at h
        · rename_i hsz
          split at h
          · rename_i gsT eN
            cases h
            have N0 : Nst H1 H3 S3 pa [] pb [] [s0] := Nst.ext ⟨by rw [upd_same]; rfl, by rw [upd_ne pab.symm, upd_same]; rfl, fun i x u e => by simp at e, rfl, pab, by simp, by simp, ins_same, by unfold ins; split <;> first | rfl | exact ins_same, hpa1, hpb, fun x hx => by cases hx⟩ g3
            have g13 := g2.trans g3
            obtain ⟨hsz, kl, jl⟩ := hsz
            have sl := L.len
            have Hpa : hid H3 S3 pa = none := hid_t N0.sa
            have Hpb : hid H3 S3 pb = none := hid_t N0.sb
            refine ⟨fun i m σ' H' => m = items.length - i ∧ i ≤ items.length ∧ ∃ δ' S' bs b gs cur, σ'[k]? = some (some (V.ref pa)) ∧ (∀ s, δ'.set j s = (δ.set k .no).set j s) ∧ δ'.length = δ.length ∧ Loc X.K H0 σ' H1 δ' S1 ∧ Loc X.K H0 σ' H' δ' S' ∧ Ext H1 S1 H' S' ∧ Same (hid H3 S3) H' ∧ hid H3 S3 b = none ∧ Nst H1 H' S' pa bs b gs cur ∧ nestN ft j (δ.set k .no) gs cur (items.drop i) = some gsT ∧ bs.length ≤ i ∧ cur.length ≤ i + 1,
              ⟨items.length, by simp, Nat.zero_le _, _, S3, [], pb, [], [s0], by rw [List.getElem?_set_self (by omega)], fun _ => rfl, by rw [List.length_set], L0, (L0.ext g2).ext g3, g13, hid_up, Hpb, N0, eN, Nat.le_refl _, by simp⟩, ?_⟩
            rintro i m σ' H' ⟨rfl, hi, δ', S', bs, b, gs, cur, hka, hδ, hln, Ls, Ld, gd, sm, Hb, N, hN, lb, lc⟩
            by_cases hlt : i < items.length
            · have ei : items[i]? = some items[i] := List.getElem?_eq_getElem hlt
              rw [List.drop_eq_getElem_cons hlt] at hN
              refine .inr ⟨io.go i H' sm hlt, fun σ' H' => ∃ δ' S' bs b gs cur, σ'[k]? = some (some (V.ref pa)) ∧ (∀ s, δ'.set j s = (δ.set k .no).set j s) ∧ δ'.length = δ.length ∧ Loc X.K H0 σ' H1 δ' S1 ∧ Loc X.K H0 σ' H' δ' S' ∧ Ext H1 S1 H' S' ∧ Same (hid H3 S3) H' ∧ hid H3 S3 b = none ∧ Nst H1 H' S' pa bs b gs cur ∧ nestN ft j (δ.set k .no) gs cur (items.drop (i + 1)) = some gsT ∧ bs.length ≤ i + 1 ∧ cur.length ≤ i + 1 + 1,
                fun σ2 H2 z => ⟨items.length - (i + 1), by omega, rfl, hlt, z⟩, fun v H2 hy => ?_⟩
              obtain ⟨e3, dx⟩ := io.yld i H' v H2 _ sm ei hy
              subst e3
              unfold nestN at hN
              split at hN
              · rename_i heq; cases heq
              · rename_i w r heq
                have e1 : items[i] = .str w := (List.cons.inj heq).1
                have e2 : items.drop (i + 1) = r := (List.cons.inj heq).2
                subst e2
                rw [e1] at dx
                cases dx
                have put : ∀ {Hx : Hp} {Sx : Addr → Bool}, Loc X.K H0 σ' Hx δ' Sx → Loc X.K H0 (σ'.set j (some (.str w))) Hx (δ'.set j (.dat (.str w))) Sx := fun L => L.put (fun _ z => nomatch z) (fun d e => by cases e; exact ⟨_, rfl, .str w⟩) (fun _ z => nomatch z)
                have Ls2 := put Ls
                have Ld2 := put Ld
                have slen := Ld.len
                have hka2 : (σ'.set j (some (V.str w)))[k]? = some (some (V.ref pa)) := by rw [List.getElem?_set_ne hjk.symm]; exact hka
                have hkj : (σ'.set j (some (V.str w)))[j]? = some (some (V.str w)) := by rw [List.getElem?_set_self (by omega)]
                have hδ2 : ∀ s, (δ'.set j (.dat (.str w))).set j s = (δ.set k .no).set j s := fun s => by rw [List.set_set]; exact hδ s
                have hln2 : (δ'.set j (.dat (.str w))).length = δ.length := by rw [List.length_set]; exact hln
                rw [← hδ] at hN
                have own : ∀ (a : Addr), H1 a = none → ∀ (i : Nat) (es : List PyData), (δ'.set j (.dat (.str w)))[i]? = some (Sl.own es) → (σ'.set j (some (V.str w)))[i]? ≠ some (some (V.ref a)) := fun a na i es e c => by
                  obtain ⟨b, f1, f2⟩ := Ls2.owned i es e
                  rw [c] at f1; cases f1
                  exact f2 na
                show tt _ _ _
                split at hN
                · rename_i eft
                  refine c2 H0 _ _ _ S' _ _ Ld2 eft fun H4 S4 g4 => iteT ?_
                  have L4 := Ld2.ext g4
                  have N4 := N.ext g4
                  have gd4 := gd.trans g4
                  refine ⟨_, hka2, .inl ⟨rfl, _, SqL.of N4.ha⟩, _, hkj, z1, fun c hc => ?_⟩
                  have ca : pa ≠ c := fun z => by subst z; rw [N4.ha] at hc; cases hc
                  have cb : b ≠ c := fun z => by subst z; rw [N4.hb] at hc; cases hc
                  have cs : c ∉ bs := fun z => N4.here z hc
                  have n1 : H1 c = none := gd4.up.free hc
                  have g5 : Ext H4 S4 (upd H4 c (.lst [.str w])) (ins S4 c) := Ext.ins hc
                  have N5 := N4.ext g5
                  have gd5 := gd4.trans g5
                  refine ⟨pa, _, .ref c, rfl, rfl, N5.ha, by rw [List.length_map, List.length_append, List.length_singleton]; omega, ?_⟩
                  have sm4 : Same (hid H3 S3) (upd H4 c (.lst [.str w])) := (sm.trans g4.up).trans g5.up
                  exact ⟨_, ins S4 c, bs ++ [b], c, _, [w], hka2, hδ2, hln2, Ls2, (L4.ext g5).mutX N5.sa (own pa N.h1) (fun i kd => Ls2.kids gd5 i pa kd N.h1), gd5.mutN N.h1 N5.sa, same_mut sm4 Hpa, (sm.trans g4.up).free hc, N5.out w upd_same ins_same n1 ca cb cs, hN, by rw [List.length_append, List.length_singleton]; omega, by simp⟩
                · rename_i eft
                  refine c2 H0 _ _ _ S' _ _ Ld2 eft fun H4 S4 g4 => iteF ?_
                  have L4 := Ld2.ext g4
                  have N4 := N.ext g4
                  have gd4 := gd.trans g4
                  refine ⟨_, hka2, ⟨1, rfl, .inl ⟨pa, _, -1, .ref b, rfl, rfl, SqL.of N4.ha, by rw [List.map_append]; exact atI_lastV _ _, .inl ⟨rfl, _, SqL.of N4.hb⟩, _, hkj, ?_⟩⟩⟩
                  refine ⟨b, _, .str w, rfl, rfl, N4.hb, by rw [List.length_map]; omega, ?_⟩
                  exact ⟨_, S4, bs, b, _, _, hka2, hδ2, hln2, Ls2, L4.mutX N4.sb (own b N.h2) (fun i kd => Ls2.kids gd4 i b kd N.h2), gd4.mutN N.h2 N4.sb, same_mut (sm.trans g4.up) Hb, Hb, N4.inn w, hN, by omega, by rw [List.length_append, List.length_singleton]; omega⟩
                · cases hN
              · cases hN
            · have e : i = items.length := by omega
              subst e
              rw [List.drop_length] at hN
              cases hN
              refine .inl ⟨io.stop _ H' sm (Nat.le_refl _), _, hka, ?_⟩
              exact q pa _ H' Ld.old (L1.old.free N.h1) N.ha (N.dvs L1.old)
          · cases h
        · cases h
      · exact i2 H0 _ _ _ _ _ _ (L0.ext g2) h2 (exc_ext (L0.ext g2) q)
    · cases h
  · exact b0 H0 σ H δ S _ _ L h1 (exc_ext L q)
end
end D3

set_option Elab.async false
set_option linter.all false
set_option maxRecDepth 100000
set_option maxHeartbeats 4000000
namespace D3
open PySem PySem.Spec PyProof.Rows L2 L3
section
variable {δ δ' : List Sl}
theorem ev_f2 {g : Rz → Rz → M Rz} {fa fb : List Sl → M Rz} {x y z : Rz} (h1 : fa δ = okM x) (h2 : fb δ = okM y) (h3 : g x y = okM z) : f2 g fa fb δ = okM z := by unfold f2; rw [h1, bnd_okM, h2, bnd_okM, h3]
theorem ev_fB {f : List Sl → M Rz} {x : Rz} {b : Bool} (h1 : f δ = okM x) (h2 : boolOf x = okM b) : fB f δ = okM b := by unfold fB; rw [h1, bnd_okM, h2]
theorem ev_fV {f : List Sl → M Bool} {b : Bool} (h1 : f δ = okM b) : fV f δ = okM (.dat (.bool b)) := by unfold fV; rw [h1, bnd_okM]
theorem ev_not {f : List Sl → M Bool} {b : Bool} (h1 : f δ = okM b) : fNot f δ = okM (!b) := by unfold fNot; rw [h1, bnd_okM]
theorem ev_notT {f : List Sl → M Bool} (h1 : f δ = okM false) : fNot f δ = okM true := ev_not h1
theorem ev_notF {f : List Sl → M Bool} (h1 : f δ = okM true) : fNot f δ = okM false := ev_not h1
theorem ev_and {f g : List Sl → M Bool} {a b : Bool} (h1 : f δ = okM a) (h2 : a = true → g δ = okM b) : fAnd f g δ = okM (a && b) := by
  unfold fAnd; rw [h1, bnd_okM]
  cases a with
  | true => rw [if_pos rfl, h2 rfl]; rfl
  | false => rfl
theorem ev_andT {f g : List Sl → M Bool} {b : Bool} (h1 : f δ = okM true) (h2 : g δ = okM b) : fAnd f g δ = okM b := by unfold fAnd; rw [h1, bnd_okM, if_pos rfl, h2]
theorem ev_andF {f g : List Sl → M Bool} (h1 : f δ = okM false) : fAnd f g δ = okM false := by unfold fAnd; rw [h1, bnd_okM]; rfl
theorem ev_or {f g : List Sl → M Bool} {a b : Bool} (h1 : f δ = okM a) (h2 : a = false → g δ = okM b) : fOr f g δ = okM (a || b) := by
  unfold fOr; rw [h1, bnd_okM]
  cases a with
  | true => rfl
  | false => rw [if_neg Bool.false_ne_true, h2 rfl]; rfl
theorem ev_orF {f g : List Sl → M Bool} {b : Bool} (h1 : f δ = okM false) (h2 : g δ = okM b) : fOr f g δ = okM b := by unfold fOr; rw [h1, bnd_okM, if_neg Bool.false_ne_true, h2]
theorem ev_fU {g : Rz → M Rz} {f : List Sl → M Rz} {x z : Rz} (h1 : f δ = okM x) (h2 : g x = okM z) : fU g f δ = okM z := by unfold fU; rw [h1, bnd_okM, h2]
theorem ev_ifT {c : List Sl → M Bool} {f g : List Sl → M Rz} {z : Rz} (hc : c δ = okM true) (h : f δ = okM z) : fIf c f g δ = okM z := by unfold fIf; rw [hc, bnd_okM, if_pos rfl, h]
theorem ev_ifF {c : List Sl → M Bool} {f g : List Sl → M Rz} {z : Rz} (hc : c δ = okM false) (h : g δ = okM z) : fIf c f g δ = okM z := by unfold fIf; rw [hc, bnd_okM, if_neg Bool.false_ne_true, h]
theorem ev_cons {f : List Sl → M Rz} {g : List Sl → M (List Rz)} {x : Rz} {xs : List Rz} (h1 : f δ = okM x) (h2 : g δ = okM xs) : fCons f g δ = okM (x :: xs) := by unfold fCons; rw [h1, bnd_okM, h2, bnd_okM]
theorem ev_call {g : List Rz → M Rz} {fa : List Sl → M (List Rz)} {zs : List Rz} {z : Rz} (h1 : fa δ = okM zs) (h2 : g zs = okM z) : fCall g fa δ = okM z := by unfold fCall; rw [h1, bnd_okM, h2]
theorem ev_gF {n : Nat} {F : List PyData → M Out} {zs : List Rz} {ds : List PyData} {o : Out} {z : Rz} (h0 : dsOf zs = some ds) (h1 : ds.length = n) (h2 : F ds = okM o) (h3 : outZ o = z) : gF n F zs = okM z := by
  unfold gF; rw [h0]; dsimp only; rw [if_pos h1, h2, bnd_okM, h3]
/-! statements -/
theorem ev_seq {f g : List Sl → Option Fl} {r : Option Fl} (h1 : f δ = some (.next δ')) (h2 : g δ' = r) : fSeq f g δ = r := by unfold fSeq; rw [h1]; exact h2
theorem ev_seqR {f g : List Sl → Option Fl} {o : Out} (h1 : f δ = some (.ret o)) : fSeq f g δ = some (.ret o) := by unfold fSeq; rw [h1]
theorem ev_set {i : Nat} {f : List Sl → M Rz} {x : Rz} {s : Sl} (h : f δ = okM x) (h2 : slotOf x = some s) (h3 : δ.set i s = δ') : fSet i f δ = some (.next δ') := by unfold fSet; rw [h]; show (match slotOf x with | some s => some (Fl.next (δ.set i s)) | none => none) = _; rw [h2]; dsimp only; rw [h3]
theorem ev_sset {i : Nat} {f : List Sl → M Rz} {g : List Sl → Option Fl} {x : Rz} {s : Sl} {r : Option Fl} (h : f δ = okM x) (h2 : slotOf x = some s) (h3 : δ.set i s = δ') (h4 : g δ' = r) : fSeq (fSet i f) g δ = r := ev_seq (ev_set h h2 h3) h4
theorem ev_sif {c : List Sl → M Bool} {f k g : List Sl → Option Fl} {b : Bool} {r : Option Fl} (hc : c δ = okM b) (h1 : b = true → fSeq f g δ = r) (h2 : b = false → fSeq k g δ = r) : fSeq (fIfS c f k) g δ = r := by
  unfold fSeq fIfS at *
  rw [hc]
  cases b with
  | true => exact h1 rfl
  | false => exact h2 rfl
theorem ev_sifT {c : List Sl → M Bool} {f k g : List Sl → Option Fl} {r : Option Fl} (hc : c δ = okM true) (h1 : fSeq f g δ = r) : fSeq (fIfS c f k) g δ = r := ev_sif hc (fun _ => h1) (fun z => nomatch z)
theorem ev_sifF {c : List Sl → M Bool} {f k g : List Sl → Option Fl} {r : Option Fl} (hc : c δ = okM false) (h1 : fSeq k g δ = r) : fSeq (fIfS c f k) g δ = r := ev_sif hc (fun z => nomatch z) (fun _ => h1)
theorem ev_if {c : List Sl → M Bool} {f k : List Sl → Option Fl} {b : Bool} {r : Option Fl} (hc : c δ = okM b) (h1 : b = true → f δ = r) (h2 : b = false → k δ = r) : fIfS c f k δ = r := by
  unfold fIfS; rw [hc]
  cases b with
  | true => exact h1 rfl
  | false => exact h2 rfl
theorem ev_iT {c : List Sl → M Bool} {f k : List Sl → Option Fl} {r : Option Fl} (hc : c δ = okM true) (h1 : f δ = r) : fIfS c f k δ = r := ev_if hc (fun _ => h1) (fun z => nomatch z)
theorem ev_iF {c : List Sl → M Bool} {f k : List Sl → Option Fl} {r : Option Fl} (hc : c δ = okM false) (h1 : k δ = r) : fIfS c f k δ = r := ev_if hc (fun z => nomatch z) (fun _ => h1)
theorem ev_snext {g : List Sl → Option Fl} {r : Option Fl} (h : g δ = r) : fSeq fNext g δ = r := h
theorem ev_sseq {f g k : List Sl → Option Fl} {r : Option Fl} (h : fSeq f (fSeq g k) δ = r) : fSeq (fSeq f g) k δ = r := by
  unfold fSeq at *
  cases e : f δ with
  | none => rw [e] at h; exact h
  | some fl => cases fl <;> (rw [e] at h; exact h)
theorem ev_ret {f : List Sl → M Rz} {x : Rz} {o : Out} (h : f δ = okM x) (h2 : outOf x = some o) : fRet f δ = some (.ret o) := by unfold fRet; rw [h]; show (match outOf x with | some o => some (Fl.ret o) | none => none) = _; rw [h2]
theorem ev_sret {f : List Sl → M Rz} {g : List Sl → Option Fl} {x : Rz} {o : Out} (h : f δ = okM x) (h2 : outOf x = some o) : fSeq (fRet f) g δ = some (.ret o) := ev_seqR (ev_ret h h2)
theorem ev_par {i j : Nat} {fa : List Sl → M (List Rz)} {x y : Rz} {d e : PyData} (h : fa δ = okM [x, y]) (h1 : datOf x = some d) (h2 : datOf y = some e) (h3 : (δ.set i (.dat d)).set j (.dat e) = δ') : fPar i j fa δ = some (.next δ') := by
  unfold fPar; rw [h]; show (match datOf x, datOf y with | some d, some e => some (Fl.next ((δ.set i (.dat d)).set j (.dat e))) | _, _ => none) = _; rw [h1, h2]; dsimp only; rw [h3]
theorem ev_pop {k : Nat} {ds : List PyData} (hk : δ[k]? = some (.own ds)) (hn : ds ≠ []) (h3 : δ.set k (.own ds.dropLast) = δ') : fPop k δ = some (.next δ') := by
  unfold fPop fMut; rw [hk]; dsimp only; rw [if_neg hn, h3]
theorem ev_put {k : Nat} {f fi : List Sl → M Rz} {x : Rz} {d : PyData} {ds : List PyData} {y : Rz} {i : Int} {j : Nat} (h : f δ = okM x) (hk : δ[k]? = some (.own ds)) (hi : fi δ = okM y) (h2 : datOf x = some d) (hy : y.d? = some (.int i)) (hj : ixN ds.length i = some j) (h3 : δ.set k (.own (ds.set j d)) = δ') : fPut k f fi δ = some (.next δ') := by
  unfold fPut; rw [h]; show fMut k _ δ = _; unfold fMut; rw [hk]; dsimp only; rw [hi]
  show (match datOf x, y.d? with | some d, some (.int i) => (match ixN ds.length i with | some j => some (Fl.next (δ.set k (.own (ds.set j d)))) | none => none) | _, _ => none) = _
  rw [h2, hy]; dsimp only; rw [hj]; dsimp only; rw [h3]
theorem ev_fn {n m : Nat} {f : List Sl → Option Fl} {ds : List PyData} {o : Out} (hl : ds.length = n) (h : f (ds.map Sl.dat ++ List.replicate m Sl.no) = some (.ret o)) : fnD n m f ds = okM o := by unfold fnD; rw [if_pos hl, h]; rfl
theorem ev_for {fi : List Sl → M (List PyData)} {g : PyData → List Sl → Option (List Sl)} {b : List Sl → Option Fl} {items : List PyData} {r : Option Fl} (h1 : fi δ = okM items) (h2 : forN g b items δ = r) : fFor fi g b δ = r := by unfold fFor; rw [h1]; exact h2
/-- a loop by a word on the items behind and ahead -/
theorem forN_inv {g : PyData → List Sl → Option (List Sl)} {b : List Sl → Option Fl} (P : Nat → List Sl → Prop) (items : List PyData) (h0 : P 0 δ)
    (hs : ∀ i d δ, items[i]? = some d → P i δ → ∃ δ1 δ2, g d δ = some δ1 ∧ (b δ1 = some (.next δ2) ∨ b δ1 = some (.cnt δ2)) ∧ P (i + 1) δ2) : ∃ δ', forN g b items δ = some (.next δ') ∧ P items.length δ' := by
  have key : ∀ (rest : List PyData) (i : Nat) (δ : List Sl), items.drop i = rest → i + rest.length = items.length → P i δ → ∃ δ', forN g b rest δ = some (.next δ') ∧ P items.length δ' := by
    intro rest
    induction rest with
    | nil => intro i δ _ hl p; exact ⟨δ, rfl, by simp at hl; rw [← hl]; exact p⟩
    | cons d r ih =>
      intro i δ hd hl p
      have hi : i < items.length := by simp at hl; omega
      rw [List.drop_eq_getElem_cons hi] at hd
      injection hd with hd1 hd2
      obtain ⟨δ1, δ2, e1, e2, p2⟩ := hs i d δ (by rw [List.getElem?_eq_getElem hi, hd1]) p
      obtain ⟨δ', e3, p3⟩ := ih (i + 1) δ2 hd2 (by simp at hl; omega) p2
      refine ⟨δ', ?_, p3⟩
      unfold forN
      rw [e1]
      dsimp only
      rcases e2 with e2 | e2 <;> (rw [e2]; exact e3)
  exact key items 0 δ (by simp) (by simp) h0
/-- a while by a word and a number that falls -/
theorem whN_inv {c : List Sl → M Bool} {b : List Sl → Option Fl} (P : List Sl → Prop) (R : List Sl → Prop) (μ : List Sl → Nat) (hs : ∀ δ, P δ → (c δ = okM false ∧ R δ) ∨ (c δ = okM true ∧ ∃ δ', b δ = some (.next δ') ∧ P δ' ∧ μ δ' < μ δ)) :
    P δ → ∃ δ', fWh c b δ = some (.next δ') ∧ R δ' := by
  have key : ∀ (k : Nat) (δ : List Sl), μ δ < k → P δ → ∃ n δ', whN c b n δ = some (.next δ') ∧ R δ' := by
    intro k
    induction k with
    | zero => intro δ h; exact absurd h (by omega)
    | succ k ih =>
      intro δ h p
      rcases hs δ p with ⟨e, r⟩ | ⟨e, δ1, e1, p1, l⟩
      · exact ⟨1, δ, by unfold whN; rw [e]; rfl, r⟩
      · obtain ⟨n, δ', e2, r⟩ := ih δ1 (by omega) p1
        exact ⟨n + 1, δ', by unfold whN; rw [e]; unfold bS okM; dsimp only; rw [if_pos rfl, e1]; exact e2, r⟩
  intro p
  obtain ⟨n, δ', e, r⟩ := key (μ δ + 1) δ (by omega) p
  exact ⟨δ', @fWh_of ⟨fun _ => 0⟩ _ _ _ _ _ e, r⟩
end
theorem ev_rng1 {δ : List Sl} {fa : List Sl → M (List Rz)} {j : Int} {m : Nat} (h : fa δ = okM [.dat (.int j)]) (h1 : -(2 ^ 62) ≤ j) (h2 : j < 2 ^ 62) (hm : j.toNat = m) : fR rng1 fa δ = okM (rangeL 0 m) := by
  unfold fR; rw [h, bnd_okM]
  show (if -(2 ^ 62) ≤ j ∧ j < 2 ^ 62 then okM (rangeL 0 j.toNat) else none) = _
  rw [if_pos ⟨h1, h2⟩, hm]
theorem range_at {lo : Int} {m i : Nat} {d : PyData} (h : (rangeL lo m)[i]? = some d) : i < m ∧ d = .int (lo + (i : Int)) := by
  unfold rangeL at h
  rw [List.getElem?_map] at h
  have hi : i < m := by
    by_cases c : i < m
    · exact c
    · rw [List.getElem?_eq_none (by rw [List.length_range]; omega)] at h; cases h
  rw [List.getElem?_range hi] at h
  cases h
  exact ⟨hi, rfl⟩
theorem range_len (lo : Int) (m : Nat) : (rangeL lo m).length = m := by unfold rangeL; rw [List.length_map, List.length_range]
/-! leaves -/
theorem atD_nat {ds : List PyData} {i : Int} {j : Nat} {d : PyData} (hi : i = (j : Int)) (h : ds[j]? = some d) : L2.atI ds i = some d := by subst hi; exact L2.atI_nat h
theorem ix_tup {ds : List PyData} {i : Int} {j : Nat} {d : PyData} (hi : i = (j : Int)) (h : ds[j]? = some d) : gIx (.dat (.tuple ds)) (.dat (.int i)) = okM (.dat d) := by
  unfold gIx seqOf Rz.d?; dsimp only; rw [atD_nat hi h]; rfl
theorem ix_lst {ds : List PyData} {i : Int} {j : Nat} {d : PyData} (hi : i = (j : Int)) (h : ds[j]? = some d) : gIx (.dat (.list ds)) (.dat (.int i)) = okM (.dat d) := by
  unfold gIx seqOf Rz.d?; dsimp only; rw [atD_nat hi h]; rfl
theorem ix_new {ds : List PyData} {i : Int} {j : Nat} {d : PyData} (hi : i = (j : Int)) (h : ds[j]? = some d) : gIx (.new ds) (.dat (.int i)) = okM (.dat d) := by
  unfold gIx seqOf Rz.d?; dsimp only; rw [atD_nat hi h]; rfl
theorem ix_t0 {p : PyData} {r : List PyData} : gIx (.dat (.tuple (p :: r))) (.dat (.int 0)) = okM (.dat p) := ix_tup (j := 0) rfl rfl
theorem ix_t1 {p q : PyData} {r : List PyData} : gIx (.dat (.tuple (p :: q :: r))) (.dat (.int 1)) = okM (.dat q) := ix_tup (j := 1) rfl rfl
theorem eqv_int (a b : Int) : PyData.eqv (.int a) (.int b) = decide (a = b) := by simp [PyData.eqv, Bool.beq_eq_decide_eq]
theorem gEq_int (a b : Int) : gEq false (.dat (.int a)) (.dat (.int b)) = okM (.dat (.bool (decide (a = b)))) := by
  have o : ∀ x : Int, okD (.int x) = true := fun _ => rfl
  simp only [gEq, Rz.d?, o, and_self, if_true, eqv_int]; rfl
theorem gNe_int (a b : Int) : gEq true (.dat (.int a)) (.dat (.int b)) = okM (.dat (.bool (!decide (a = b)))) := by
  have o : ∀ x : Int, okD (.int x) = true := fun _ => rfl
  simp only [gEq, Rz.d?, o, and_self, if_true, eqv_int]
theorem gMulI {i j : Int} (h : IntMulOk i j) : gI gMul (.dat (.int i)) (.dat (.int j)) = okM (.dat (.int (i * j))) := by unfold gI gMul Rz.d?; dsimp only; rw [if_pos h]
theorem gFdivI {i j : Int} (h : j ≠ 0) (h2 : j.natAbs < 2 ^ 9000) : gI gFdiv (.dat (.int i)) (.dat (.int j)) = okM (.dat (.int (i.fdiv j))) := by unfold gI gFdiv Rz.d?; dsimp only; rw [if_pos ⟨h, h2⟩]
theorem gModI {i j : Int} (h : j ≠ 0) : gI gMod (.dat (.int i)) (.dat (.int j)) = okM (.dat (.int (i.fmod j))) := by unfold gI gMod Rz.d?; dsimp only; rw [if_neg h]
theorem gModP {i j : Int} (h : 0 < j) : gI gMod (.dat (.int i)) (.dat (.int j)) = okM (.dat (.int (i % j))) := by
  rw [gModI (by omega), Int.fmod_eq_emod_of_nonneg _ (by omega)]
theorem gFdivP {i j : Int} (h : 0 < j) (h2 : j < 1073741824) : gI gFdiv (.dat (.int i)) (.dat (.int j)) = okM (.dat (.int (i / j))) := by
  rw [gFdivI (by omega) (Nat.lt_of_lt_of_le (m := 2 ^ 30) (by omega) (Nat.pow_le_pow_right (by decide) (by decide))), Int.fdiv_eq_ediv_of_nonneg _ (by omega)]
theorem gPowI {i j : Int} (h : CPow i j) : gI gPow (.dat (.int i)) (.dat (.int j)) = okM (.dat (.int (i ^ j.toNat))) := by unfold gI gPow Rz.d?; dsimp only; rw [if_pos h]
theorem mul_l {a b : Int} (h1 : -(2 ^ 64) < a) (h2 : a < 2 ^ 64) : IntMulOk a b := IntMulOk.of_left (intBits_le_64 h1 h2)
theorem mul_r {a b : Int} (h1 : -(2 ^ 64) < b) (h2 : b < 2 ^ 64) : IntMulOk a b := IntMulOk.of_right (intBits_le_64 h1 h2)
end D3

set_option Elab.async false
set_option linter.all false
set_option maxRecDepth 100000
set_option maxHeartbeats 4000000
namespace Law
open PySem PySem.Spec PyProof.Rows L2 L3 D3
/-! THE TEXT BY PLACES -/
def top (i : Nat) : Stmt := PySem.Challenge.pw_neverbelow_k57_curves_read.main.body.getD i (.Pass ⟨0, 0, 0, 0⟩)
abbrev s_greatest_divisor : Stmt := top 8
abbrev s_number : Stmt := top 9
abbrev s_minus : Stmt := top 10
abbrev s_sign : Stmt := top 11
abbrev s_curve_of : Stmt := top 14
abbrev s_show_number : Stmt := top 18
abbrev s_show_power : Stmt := top 19
abbrev s_show_term : Stmt := top 20
abbrev s_show_curve : Stmt := top 21
abbrev s_whole_in : Stmt := top 22
abbrev s_size_in : Stmt := top 23
abbrev s_power_in : Stmt := top 24
abbrev s_term_in : Stmt := top 25
abbrev s_sign_and_rest : Stmt := top 26
abbrev s_signed : Stmt := top 27
abbrev s_terms_in : Stmt := top 28
abbrev s_check_text : Stmt := top 29
abbrev s_check_written : Stmt := top 30
abbrev s_read_curve : Stmt := top 31
abbrev s__law_mixed : Stmt := top 33
abbrev s__law_divisor : Stmt := top 34
abbrev s__law_number : Stmt := top 35
abbrev s__law_term : Stmt := top 36
abbrev s__law_text : Stmt := top 37
abbrev s__law_curve : Stmt := top 38
abbrev s__law_right : Stmt := top 39
abbrev s_law : Stmt := top 40
noncomputable def B__law_mixed : List Sl → Option Fl := (fSeq (fSet 2 (fC (.int 7)))
    (fSeq (fIfS (fB (f2 (gI gGt) (fCall (g1 lenOf) (fCons (fVar 0) fNil)) (fC (.int 0)))) (fSet 2 (f2 gIx (fVar 0) (f2 (gI gMod) (fVar 1) (fCall (g1 lenOf) (fCons (fVar 0) fNil))))) fNext)
    (fSeq (fSet 2 (f2 (gI gMod) (f2 (gI gMul) (f2 (gI gAdd) (f2 (gI gAdd) (f2 (gI gMod) (fVar 2) (fC (.int 2147483629))) (f2 (gI gMul) (fC (.int 6151)) (fVar 1))) (fC (.int 1))) (fC (.int 48271))) (fC (.int 2147483647))))
    (fRet (f2 (gI gMod) (f2 (gI gMul) (fVar 2) (f2 (gI gAdd) (f2 (gI gAdd) (f2 (gI gMod) (fVar 2) (fC (.int 65519))) (fVar 1)) (fC (.int 2)))) (fC (.int 2147483629)))))))
noncomputable def F__law_mixed : List PyData → M Out := fnD 2 1 B__law_mixed
noncomputable def B__law_divisor : List Sl → Option Fl := (fSeq (fWh (fB (f2 (gEq true) (fVar 1) (fC (.int 0)))) (fPar 0 1 (fCons (fVar 1) (fCons (f2 (gI gMod) (fVar 0) (fVar 1)) fNil))))
    (fRet (fCall (g1 absOf) (fCons (fVar 0) fNil))))
noncomputable def F__law_divisor : List PyData → M Out := fnD 2 0 B__law_divisor
noncomputable def B__law_number : List Sl → Option Fl := (fSeq (fSet 2 (fCall (gF 2 F__law_mixed) (fCons (fVar 0) (fCons (fVar 1) fNil))))
    (fSeq (fSet 3 (f2 (gI gMod) (fVar 2) (fC (.int 6))))
    (fSeq (fIfS (fB (f2 (gI gLt) (fVar 3) (fC (.int 2)))) (fRet (fCall gTup (fCons (fC (.int 0)) (fCons (fC (.int 1)) fNil)))) fNext)
    (fSeq (fIfS (fB (f2 (gEq false) (fVar 3) (fC (.int 2)))) (fRet (fCall gTup (fCons (f2 gIx (fCall gLst (fCons (fC (.int 1)) (fCons (fU negOf (fC (.int 1))) fNil))) (f2 (gI gMod) (f2 (gI gFdiv) (fVar 2) (fC (.int 6))) (fC (.int 2)))) (fCons (fC (.int 1)) fNil)))) fNext)
    (fSeq (fSet 4 (f2 (gI gAdd) (f2 (gI gMod) (f2 (gI gFdiv) (fVar 2) (fC (.int 12))) (fC (.int 9))) (fC (.int 1))))
    (fSeq (fSet 5 (f2 (gI gAdd) (f2 (gI gMod) (f2 (gI gFdiv) (fVar 2) (fC (.int 108))) (fC (.int 5))) (fC (.int 1))))
    (fSeq (fIfS (fB (f2 (gEq false) (fVar 3) (fC (.int 3)))) (fSeq (fSet 4 (f2 (gI gSub) (f2 (gI gSub) (f2 (gI gPow) (fC (.int 10)) (fC (.int 12))) (fC (.int 1))) (fCall (gF 2 F__law_mixed) (fCons (fVar 0) (fCons (f2 (gI gAdd) (fVar 1) (fC (.int 50))) fNil)))))
    (fSet 5 (f2 (gI gSub) (f2 (gI gSub) (f2 (gI gPow) (fC (.int 10)) (fC (.int 12))) (fC (.int 1))) (f2 (gI gMul) (fCall (gF 2 F__law_mixed) (fCons (fVar 0) (fCons (f2 (gI gAdd) (fVar 1) (fC (.int 70))) fNil))) (f2 gIx (fCall gLst (fCons (fC (.int 0)) (fCons (fC (.int 1)) fNil))) (f2 (gI gMod) (f2 (gI gFdiv) (fVar 2) (fC (.int 600))) (fC (.int 2)))))))) fNext)
    (fSeq (fSet 6 (fCall (gF 2 F__law_divisor) (fCons (fVar 4) (fCons (fVar 5) fNil))))
    (fRet (fCall gTup (fCons (f2 (gI gMul) (f2 gIx (fCall gLst (fCons (fC (.int 1)) (fCons (fU negOf (fC (.int 1))) fNil))) (f2 (gI gMod) (f2 (gI gFdiv) (fVar 2) (fC (.int 6))) (fC (.int 2)))) (f2 (gI gFdiv) (fVar 4) (fVar 6))) (fCons (f2 (gI gFdiv) (fVar 5) (fVar 6)) fNil))))))))))))
noncomputable def F__law_number : List PyData → M Out := fnD 2 5 B__law_number
noncomputable def B__law_term : List Sl → Option Fl := (fSeq (fSet 2 (fCall (g1 strOf) (fCons (fCall (g1 absOf) (fCons (f2 gIx (fVar 0) (fC (.int 0))) fNil)) fNil)))
    (fSeq (fIfS (fB (f2 (gI gGt) (f2 gIx (fVar 0) (fC (.int 1))) (fC (.int 1)))) (fSet 2 (f2 gAddS (f2 gAddS (fVar 2) (fC (.str "/"))) (fCall (g1 strOf) (fCons (f2 gIx (fVar 0) (fC (.int 1))) fNil)))) fNext)
    (fSeq (fIfS (fB (f2 (gEq false) (fVar 1) (fC (.int 0)))) (fRet (fVar 2)) fNext)
    (fSeq (fSet 3 (f2 gIx (fCall gLst (fCons (fC (.str "x")) (fCons (f2 gAddS (fC (.str "x^")) (fCall (g1 strOf) (fCons (fVar 1) fNil))) fNil))) (fCall (g1 intOf) (fCons (f2 (gI gGt) (fVar 1) (fC (.int 1))) fNil))))
    (fSeq (fIfS (fB (f2 (gEq false) (fVar 2) (fC (.str "1")))) (fRet (fVar 3)) fNext)
    (fRet (f2 gAddS (f2 gAddS (fVar 2) (fC (.str " "))) (fVar 3))))))))
noncomputable def F__law_term : List PyData → M Out := fnD 2 2 B__law_term
noncomputable def B__law_text : List Sl → Option Fl := (fSeq (fSet 1 (fC (.str "")))
    (fSeq (fFor (fR rng1 (fCons (fCall (g1 lenOf) (fCons (fVar 0) fNil)) fNil)) (tName 2) (fSeq (fSet 3 (fCall (g1 intOf) (fCons (f2 (gI gLt) (f2 gIx (f2 gIx (fVar 0) (fVar 2)) (fC (.int 0))) (fC (.int 0))) fNil)))
    (fIfS (fAnd (fB (f2 (gEq true) (f2 gIx (f2 gIx (fVar 0) (fVar 2)) (fC (.int 0))) (fC (.int 0)))) (fB (f2 (gEq false) (fVar 1) (fC (.str ""))))) (fSet 1 (f2 gAddS (f2 gIx (fCall gLst (fCons (fC (.str "")) (fCons (fC (.str "-")) fNil))) (fVar 3)) (fCall (gF 2 F__law_term) (fCons (f2 gIx (fVar 0) (fVar 2)) (fCons (fVar 2) fNil))))) (fIfS (fB (f2 (gEq true) (f2 gIx (f2 gIx (fVar 0) (fVar 2)) (fC (.int 0))) (fC (.int 0)))) (fSet 1 (f2 gAddS (f2 gAddS (fVar 1) (f2 gIx (fCall gLst (fCons (fC (.str " + ")) (fCons (fC (.str " - ")) fNil))) (fVar 3))) (fCall (gF 2 F__law_term) (fCons (f2 gIx (fVar 0) (fVar 2)) (fCons (fVar 2) fNil))))) fNext))))
    (fSeq (fIfS (fB (f2 (gEq false) (fVar 1) (fC (.str "")))) (fRet (fC (.str "0"))) fNext)
    (fRet (fVar 1)))))
noncomputable def F__law_text : List PyData → M Out := fnD 1 3 B__law_text
noncomputable def B__law_curve : List Sl → Option Fl := (fSeq (fSet 2 (fLC (fR rng1 (fCons (f2 (gI gMod) (fCall (gF 2 F__law_mixed) (fCons (fVar 0) (fCons (f2 (gI gAdd) (fVar 1) (fC (.int 30))) fNil))) (fC (.int 14))) fNil)) fTrue (fCall (gF 2 F__law_number) (fCons (fVar 1) (fCons (f2 (gI gAdd) (fVar 2) (fVar 0)) fNil)))))
    (fSeq (fIfS (fAnd (fB (f2 (gI gGt) (fCall (g1 lenOf) (fCons (fVar 2) fNil)) (fC (.int 0)))) (fB (f2 (gEq false) (f2 (gI gMod) (fCall (gF 2 F__law_mixed) (fCons (fVar 0) (fCons (f2 (gI gAdd) (fVar 1) (fC (.int 31))) fNil))) (fC (.int 5))) (fC (.int 0))))) (fSet 2 (f2 gCat (f2 gRep (fCall gLst (fCons (fCall gTup (fCons (fC (.int 0)) (fCons (fC (.int 1)) fNil))) fNil)) (f2 (gI gSub) (fCall (g1 lenOf) (fCons (fVar 2) fNil)) (fC (.int 1)))) (fSl gSlL (fVar 2) (fPart (fU negOf (fC (.int 1)))) fNoP))) fNext)
    (fSeq (fWh (fAnd (fB (f2 (gEq true) (fVar 2) (fCall gLst fNil))) (fOr (fB (f2 (gEq false) (f2 gIx (f2 gIx (fVar 2) (fU negOf (fC (.int 1)))) (fC (.int 0))) (fC (.int 0)))) (fB (f2 (gI gGt) (fCall (g1 lenS) (fCons (fCall (gF 1 F__law_text) (fCons (fVar 2) fNil)) fNil)) (fC (.int 400)))))) (fPop 2))
    (fRet (fCall (g1 tupleOf) (fCons (fVar 2) fNil))))))
noncomputable def F__law_curve : List PyData → M Out := fnD 2 1 B__law_curve
noncomputable def B_check_text : List Sl → Option Fl := (fIfS (fNot (fB (fU (gIsi (ansL [(.non, false), (.bl, false), (.int, false), (.lst, false), (.tup, false), (.str, true)])) (fVar 0)))) (fRaise .NoText (fCons (fC (.str "what is no text isn't read")) fNil)) fNext)
noncomputable def F_check_text : List PyData → M Out := fnD 1 0 B_check_text
noncomputable def B_sign_and_rest : List Sl → Option Fl := (fSeq (fIfS (fB (fU (gStarts "-") (fVar 0))) (fRet (fCall gTup (fCons (fC (.str "-")) (fCons (fSl gSlS (fVar 0) (fPart (fC (.int 1))) fNoP) fNil)))) fNext)
    (fRet (fCall gTup (fCons (fC (.str "+")) (fCons (fVar 0) fNil)))))
noncomputable def F_sign_and_rest : List PyData → M Out := fnD 1 0 B_sign_and_rest
noncomputable def B_terms_in : List Sl → Option Fl := (fSeq (fSet 1 (fCall (gF 1 F_sign_and_rest) (fCons (fVar 0) fNil)))
    (fNest 2 3 (f2 gIx (fVar 1) (fC (.int 0))) (fI itemsL (fU (gSplit " ") (f2 gIx (fVar 1) (fC (.int 1))))) (fB (f2 (gIn false) (fVar 3) (fCall gTup (fCons (fC (.str "+")) (fCons (fC (.str "-")) fNil)))))))
noncomputable def F_terms_in : List PyData → M Out := fnD 1 3 B_terms_in
noncomputable def B_sign : List Sl → Option Fl := (fSeq (fIfS (fB (f2 (gI gGt) (f2 gIx (fVar 0) (fC (.int 0))) (fC (.int 0)))) (fRet (fC (.int 1))) fNext)
    (fSeq (fIfS (fB (f2 (gI gLt) (f2 gIx (fVar 0) (fC (.int 0))) (fC (.int 0)))) (fRet (fU negOf (fC (.int 1)))) fNext)
    (fRet (fC (.int 0)))))
noncomputable def F_sign : List PyData → M Out := fnD 1 0 B_sign
noncomputable def B_curve_of : List Sl → Option Fl := (fSeq (fSet 1 (fCall (g1 lenOf) (fCons (fVar 0) fNil)))
    (fSeq (fWh (fAnd (fB (f2 (gI gGt) (fVar 1) (fC (.int 0)))) (fB (f2 (gEq false) (fCall (gF 1 F_sign) (fCons (f2 gIx (fVar 0) (f2 (gI gSub) (fVar 1) (fC (.int 1)))) fNil)) (fC (.int 0))))) (fSet 1 (f2 (gI gSub) (fVar 1) (fC (.int 1)))))
    (fSeq (fIfS (fB (f2 (gI gGt) (fVar 1) (fC (.int 13)))) (fRaise .TooGreat (fCons (fC (.str "a curve has at most thirteen numbers")) fNil)) fNext)
    (fRet (fCall (g1 tupleOf) (fCons (fSl gSlL (fVar 0) fNoP (fPart (fVar 1))) fNil))))))
noncomputable def F_curve_of : List PyData → M Out := fnD 1 1 B_curve_of
noncomputable def B_check_written : List Sl → Option Fl := (fIfS (fB (f2 (gEq true) (fVar 0) (fVar 1))) (fRaise .NoText (fCons (fC (.str "this is not how it is written")) fNil)) fNext)
noncomputable def F_check_written : List PyData → M Out := fnD 2 0 B_check_written
noncomputable def B_whole_in : List Sl → Option Fl := (fSeq (fIfS (fOr (fB (f2 (gEq false) (fVar 0) (fC (.str "")))) (fOr (fB (f2 (gI gGt) (fCall (g1 lenS) (fCons (fVar 0) fNil)) (fC (.int 12)))) (fNot (fB (fCall (g1 (qOf allB)) (fCons (fLC (fI itemsS (fVar 0)) fTrue (f2 (gInS false) (fVar 0) (fC (.str "0123456789")))) fNil)))))) (fRaise .NoText (fCons (fC (.str "a whole number is written with one to twelve figures")) fNil)) fNext)
    (fRet (fCall (g1 intS) (fCons (fVar 0) fNil))))
noncomputable def F_whole_in : List PyData → M Out := fnD 1 0 B_whole_in
noncomputable def B_greatest_divisor : List Sl → Option Fl := (fSeq (fWh (fB (f2 (gEq true) (fVar 1) (fC (.int 0)))) (fSeq (fSet 2 (f2 (gI gMod) (fVar 0) (fVar 1)))
    (fSeq (fSet 0 (fVar 1))
    (fSet 1 (fVar 2)))))
    (fRet (fCall (g1 absOf) (fCons (fVar 0) fNil))))
noncomputable def F_greatest_divisor : List PyData → M Out := fnD 2 1 B_greatest_divisor
noncomputable def B_number : List Sl → Option Fl := (fSeq (fIfS (fB (f2 (gEq false) (fVar 1) (fC (.int 0)))) (fRaise .NoNumber (fCons (fC (.str "a number has no bottom 0")) fNil)) fNext)
    (fSeq (fSet 2 (fCall (gF 2 F_greatest_divisor) (fCons (fVar 0) (fCons (fVar 1) fNil))))
    (fSeq (fIfS (fB (f2 (gI gLt) (fVar 1) (fC (.int 0)))) (fSet 2 (fU negOf (fVar 2))) fNext)
    (fRet (fCall gTup (fCons (f2 (gI gFdiv) (fVar 0) (fVar 2)) (fCons (f2 (gI gFdiv) (fVar 1) (fVar 2)) fNil)))))))
noncomputable def F_number : List PyData → M Out := fnD 2 1 B_number
noncomputable def B_size_in : List Sl → Option Fl := (fSeq (fSet 1 (fU (gPart "/") (fVar 0)))
    (fSeq (fSet 2 (fCall (gF 1 F_whole_in) (fCons (f2 gIx (fVar 1) (fC (.int 0))) fNil)))
    (fSeq (fIfS (fB (f2 (gEq false) (f2 gIx (fVar 1) (fC (.int 1))) (fC (.str "")))) (fRet (fCall gTup (fCons (fVar 2) (fCons (fC (.int 1)) fNil)))) fNext)
    (fSeq (fSet 3 (fCall (gF 1 F_whole_in) (fCons (f2 gIx (fVar 1) (fC (.int 2))) fNil)))
    (fSeq (fIfS (fB (f2 (gEq false) (fVar 3) (fC (.int 0)))) (fRaise .NoText (fCons (fC (.str "no bottom is 0")) fNil)) fNext)
    (fRet (fCall (gF 2 F_number) (fCons (fVar 2) (fCons (fVar 3) fNil)))))))))
noncomputable def F_size_in : List PyData → M Out := fnD 1 3 B_size_in
noncomputable def B_power_in : List Sl → Option Fl := (fSeq (fIfS (fB (f2 (gEq false) (fVar 0) (fC (.str "x")))) (fRet (fC (.int 1))) fNext)
    (fSeq (fIfS (fNot (fB (fU (gStarts "x^") (fVar 0)))) (fRaise .NoText (fCons (fC (.str "a power is written x, or x^ and figures")) fNil)) fNext)
    (fSeq (fSet 1 (fCall (gF 1 F_whole_in) (fCons (fSl gSlS (fVar 0) (fPart (fC (.int 2))) fNoP) fNil)))
    (fSeq (fIfS (fB (f2 (gI gGe) (fVar 1) (fC (.int 13)))) (fRaise .NoText (fCons (fC (.str "a power is at most 12")) fNil)) fNext)
    (fRet (fVar 1))))))
noncomputable def F_power_in : List PyData → M Out := fnD 1 1 B_power_in
noncomputable def B_term_in : List Sl → Option Fl := (fSeq (fIfS (fAnd (fB (f2 (gEq false) (fCall (g1 lenOf) (fCons (fVar 0) fNil)) (fC (.int 1)))) (fNot (fB (fU (gStarts "x") (f2 gIx (fVar 0) (fC (.int 0))))))) (fRet (fCall gTup (fCons (fC (.int 0)) (fCons (fCall (gF 1 F_size_in) (fCons (f2 gIx (fVar 0) (fC (.int 0))) fNil)) fNil)))) fNext)
    (fSeq (fIfS (fB (f2 (gEq false) (fCall (g1 lenOf) (fCons (fVar 0) fNil)) (fC (.int 1)))) (fRet (fCall gTup (fCons (fCall (gF 1 F_power_in) (fCons (f2 gIx (fVar 0) (fC (.int 0))) fNil)) (fCons (fC (.tuple [(.int 1), (.int 1)])) fNil)))) fNext)
    (fSeq (fIfS (fB (f2 (gEq false) (fCall (g1 lenOf) (fCons (fVar 0) fNil)) (fC (.int 2)))) (fRet (fCall gTup (fCons (fCall (gF 1 F_power_in) (fCons (f2 gIx (fVar 0) (fC (.int 1))) fNil)) (fCons (fCall (gF 1 F_size_in) (fCons (f2 gIx (fVar 0) (fC (.int 0))) fNil)) fNil)))) fNext)
    (fRaise .NoText (fCons (fC (.str "a term is a number, a power, or both with a blank between")) fNil)))))
noncomputable def F_term_in : List PyData → M Out := fnD 1 0 B_term_in
noncomputable def B_minus : List Sl → Option Fl := (fRet (fCall (gF 2 F_number) (fCons (f2 (gI gSub) (f2 (gI gMul) (f2 gIx (fVar 0) (fC (.int 0))) (f2 gIx (fVar 1) (fC (.int 1)))) (f2 (gI gMul) (f2 gIx (fVar 1) (fC (.int 0))) (f2 gIx (fVar 0) (fC (.int 1))))) (fCons (f2 (gI gMul) (f2 gIx (fVar 0) (fC (.int 1))) (f2 gIx (fVar 1) (fC (.int 1)))) fNil))))
noncomputable def F_minus : List PyData → M Out := fnD 2 0 B_minus
noncomputable def B_signed : List Sl → Option Fl := (fSeq (fIfS (fB (f2 (gEq false) (fVar 0) (fC (.str "-")))) (fRet (fCall (gF 2 F_minus) (fCons (fC (.tuple [(.int 0), (.int 1)])) (fCons (fVar 1) fNil)))) fNext)
    (fRet (fVar 1)))
noncomputable def F_signed : List PyData → M Out := fnD 2 0 B_signed
noncomputable def B_show_number : List Sl → Option Fl := (fSeq (fIfS (fB (f2 (gEq false) (f2 gIx (fVar 0) (fC (.int 1))) (fC (.int 1)))) (fRet (fCall (g1 strOf) (fCons (f2 gIx (fVar 0) (fC (.int 0))) fNil))) fNext)
    (fRet (f2 gAddS (f2 gAddS (fCall (g1 strOf) (fCons (f2 gIx (fVar 0) (fC (.int 0))) fNil)) (fC (.str "/"))) (fCall (g1 strOf) (fCons (f2 gIx (fVar 0) (fC (.int 1))) fNil)))))
noncomputable def F_show_number : List PyData → M Out := fnD 1 0 B_show_number
noncomputable def B_show_power : List Sl → Option Fl := (fSeq (fIfS (fB (f2 (gEq false) (fVar 0) (fC (.int 1)))) (fRet (fC (.str "x"))) fNext)
    (fRet (f2 gAddS (fC (.str "x^")) (fCall (g1 strOf) (fCons (fVar 0) fNil)))))
noncomputable def F_show_power : List PyData → M Out := fnD 1 0 B_show_power
noncomputable def B_show_term : List Sl → Option Fl := (fSeq (fIfS (fB (f2 (gEq false) (fVar 1) (fC (.int 0)))) (fRet (fCall (gF 1 F_show_number) (fCons (fVar 0) fNil))) fNext)
    (fSeq (fIfS (fB (f2 (gEq false) (fVar 0) (fC (.tuple [(.int 1), (.int 1)])))) (fRet (fCall (gF 1 F_show_power) (fCons (fVar 1) fNil))) fNext)
    (fRet (f2 gAddS (f2 gAddS (fCall (gF 1 F_show_number) (fCons (fVar 0) fNil)) (fC (.str " "))) (fCall (gF 1 F_show_power) (fCons (fVar 1) fNil))))))
noncomputable def F_show_term : List PyData → M Out := fnD 2 0 B_show_term
noncomputable def B_show_curve : List Sl → Option Fl := (fSeq (fSet 1 (fC (.str "")))
    (fSeq (fFor (fR rng1 (fCons (fCall (g1 lenOf) (fCons (fVar 0) fNil)) fNil)) (tName 2) (fSeq (fSet 3 (f2 gIx (fVar 0) (fVar 2)))
    (fSeq (fIfS (fB (f2 (gEq false) (fCall (gF 1 F_sign) (fCons (fVar 3) fNil)) (fC (.int 0)))) fCnt fNext)
    (fSeq (fIfS (fB (f2 (gEq true) (fVar 1) (fC (.str "")))) (fSet 1 (f2 gAddS (fVar 1) (fIf (fB (f2 (gI gLt) (fCall (gF 1 F_sign) (fCons (fVar 3) fNil)) (fC (.int 0)))) (fC (.str " - ")) (fC (.str " + "))))) (fIfS (fB (f2 (gI gLt) (fCall (gF 1 F_sign) (fCons (fVar 3) fNil)) (fC (.int 0)))) (fSet 1 (fC (.str "-"))) fNext))
    (fSet 1 (f2 gAddS (fVar 1) (fCall (gF 2 F_show_term) (fCons (fCall gTup (fCons (fCall (g1 absOf) (fCons (f2 gIx (fVar 3) (fC (.int 0))) fNil)) (fCons (f2 gIx (fVar 3) (fC (.int 1))) fNil))) (fCons (fVar 2) fNil)))))))))
    (fRet (fIf (fB (f2 (gEq true) (fVar 1) (fC (.str "")))) (fVar 1) (fC (.str "0"))))))
noncomputable def F_show_curve : List PyData → M Out := fnD 1 3 B_show_curve
noncomputable def B_read_curve : List Sl → Option Fl := (fSeq (fDrop (fCall (gF 1 F_check_text) (fCons (fVar 0) fNil)))
    (fSeq (fSet 1 (f2 gRep (fCall gLst (fCons (fC (.tuple [(.int 0), (.int 1)])) fNil)) (fC (.int 13))))
    (fSeq (fFor (fI itemsL (fCall (gF 1 F_terms_in) (fCons (fVar 0) fNil))) (tName 2) (fSeq (fSet 4 (fCall (gF 1 F_term_in) (fCons (fSl gSlL (fVar 2) (fPart (fC (.int 1))) fNoP) fNil)))
    (fPut 1 (fCall (gF 2 F_signed) (fCons (f2 gIx (fVar 2) (fC (.int 0))) (fCons (f2 gIx (fVar 4) (fC (.int 1))) fNil))) (f2 gIx (fVar 4) (fC (.int 0))))))
    (fSeq (fSet 3 (fCall (gF 1 F_curve_of) (fCons (fVar 1) fNil)))
    (fSeq (fDrop (fCall (gF 2 F_check_written) (fCons (fVar 0) (fCons (fCall (gF 1 F_show_curve) (fCons (fVar 3) fNil)) fNil))))
    (fRet (fVar 3)))))))
noncomputable def F_read_curve : List PyData → M Out := fnD 1 4 B_read_curve
noncomputable def B__law_right : List Sl → Option Fl := (fSeq (fSet 1 (fCall (gF 1 F_read_curve) (fCons (fCall (gF 1 F__law_text) (fCons (fVar 0) fNil)) fNil)))
    (fSeq (fIfS (fOr (fNot (fB (fU (gIsi (ansL [(.non, false), (.bl, false), (.int, false), (.lst, false), (.tup, true), (.str, false)])) (fVar 1)))) (fB (f2 (gEq true) (fVar 1) (fVar 0)))) (fRet (fC (.bool false))) fNext)
    (fSeq (fFor (fI itemsT (fVar 1)) (tName 2) (fIfS (fOr (fNot (fB (fU (gIsi (ansL [(.non, false), (.bl, false), (.int, false), (.lst, false), (.tup, true), (.str, false)])) (fVar 2)))) (fOr (fB (fU (gIsi (ansL [(.non, false), (.bl, true), (.int, false), (.lst, false), (.tup, false), (.str, false)])) (f2 gIx (fVar 2) (fC (.int 0))))) (fB (fU (gIsi (ansL [(.non, false), (.bl, true), (.int, false), (.lst, false), (.tup, false), (.str, false)])) (f2 gIx (fVar 2) (fC (.int 1))))))) (fRet (fC (.bool false))) fNext))
    (fRet (fC (.bool true))))))
noncomputable def F__law_right : List PyData → M Out := fnD 1 2 B__law_right
noncomputable def B_law : List Sl → Option Fl := (fSeq (fSet 1 (fCall (gF 2 F__law_curve) (fCons (fVar 0) (fCons (fC (.int 100)) fNil))))
    (fSeq (fSet 2 (fCall (gF 2 F__law_curve) (fCons (fVar 0) (fCons (fC (.int 300)) fNil))))
    (fRet (fV (fAnd (fB (fCall (gF 1 F__law_right) (fCons (fVar 1) fNil))) (fAnd (fB (fCall (gF 1 F__law_right) (fCons (fVar 2) fNil))) (fAnd (fB (fCall (gF 1 F__law_right) (fCons (fVar 1) fNil))) (fB (f2 (gEq false) (fCall (gF 1 F_read_curve) (fCons (fC (.str "0")) fNil)) (fCall gTup fNil))))))))))
noncomputable def F_law : List PyData → M Out := fnD 1 2 B_law
section
variable [Ecx]
structure Facts (K : PySem.W.Frag) (mg : Str → Option Value) : Prop where
  m_len : mg "len" = none
  m_abs : mg "abs" = none
  m_str : mg "str" = none
  m_int : mg "int" = none
  m_range : mg "range" = none
  m_tuple : mg "tuple" = none
  m_isinstance : mg "isinstance" = none
  ik_str : IsK K (.ty "str") (ansL [(.non, false), (.bl, false), (.int, false), (.lst, false), (.tup, false), (.str, true)])
  m_NoText : mg "NoText" = some (.ref (ecx .NoText))
  q_NoText : PySem.W.excIn K (ecx .NoText) [.type "ValueError", .type "Exception", .type "BaseException", .type "object"] "ValueError.__new__" = true
  c_MOST_NUMBERS : HasC K mg "MOST_NUMBERS" (.int 13)
  m_TooGreat : mg "TooGreat" = some (.ref (ecx .TooGreat))
  q_TooGreat : PySem.W.excIn K (ecx .TooGreat) [.type "ValueError", .type "Exception", .type "BaseException", .type "object"] "ValueError.__new__" = true
  c_MOST_FIGURES : HasC K mg "MOST_FIGURES" (.int 12)
  c_FIGURES : HasC K mg "FIGURES" (.str "0123456789")
  m_all : mg "all" = none
  m_NoNumber : mg "NoNumber" = some (.ref (ecx .NoNumber))
  q_NoNumber : PySem.W.excIn K (ecx .NoNumber) [.type "ValueError", .type "Exception", .type "BaseException", .type "object"] "ValueError.__new__" = true
  c_ONE : HasC K mg "ONE" (.tuple [(.int 1), (.int 1)])
  c_NOUGHT : HasC K mg "NOUGHT" (.tuple [(.int 0), (.int 1)])
  ik_tuple : IsK K (.ty "tuple") (ansL [(.non, false), (.bl, false), (.int, false), (.lst, false), (.tup, true), (.str, false)])
  m_bool : mg "bool" = none
  ik_bool : IsK K (.ty "bool") (ansL [(.non, false), (.bl, true), (.int, false), (.lst, false), (.tup, false), (.str, false)])
variable {P : Program} {w : World} {K : PySem.W.Frag} {mg : Str → Option Value} {base : Heap} {f : Addr} {fd : FuncData}
theorem sc__law_mixed : FnScope ["_law_script", "_law_k", "_law_cell"] ["_law_script", "_law_k"] (defScope s__law_mixed) := ⟨rfl, rfl, rfl, by decide +kernel, rfl, by decide +kernel, by decide +kernel⟩
theorem ok__law_mixed (A : Facts K mg) (F : Fun K "_law_mixed" "_law_mixed" s__law_mixed f fd) : FnOk P w K mg base (CXR P w) 1 f fd ["_law_script", "_law_k"] (spD K 2 F__law_mixed) :=
  fn_ok 2 1 B__law_mixed F sc__law_mixed rfl rfl fun cdv AA outer s H E Z =>
   (dss_cons (ds_set 2 sc__law_mixed.nd de_int)
    (dss_cons (ds_if (dt_cmp op_gt od_gt (de_callB call_len_seq cd_len A.m_len PySem.boot_len (da_cons (de_var 0) da_nil)) de_int) (dss_one (ds_set 2 sc__law_mixed.nd (de_ix (de_var 0) (de_bin op_modN od_mod (de_var 1) (de_callB call_len_seq cd_len A.m_len PySem.boot_len (da_cons (de_var 0) da_nil)))))) dss_nil)
    (dss_cons (ds_set 2 sc__law_mixed.nd (de_bin op_modN od_mod (de_bin op_mulW od_mul (de_bin op_add od_add (de_bin op_add od_add (de_bin op_modN od_mod (de_var 2) de_int) (de_bin op_mulW od_mul de_int (de_var 1))) de_int) de_int) de_int))
    (dss_one (ds_ret (de_bin op_modN od_mod (de_bin op_mulW od_mul (de_var 2) (de_bin op_add od_add (de_bin op_add od_add (de_bin op_modN od_mod (de_var 2) de_int) (de_var 1)) de_int)) de_int))))))
theorem sc__law_divisor : FnScope ["_law_one", "_law_other"] ["_law_one", "_law_other"] (defScope s__law_divisor) := ⟨rfl, rfl, rfl, by decide +kernel, rfl, by decide +kernel, by decide +kernel⟩
theorem ok__law_divisor (A : Facts K mg) (F : Fun K "_law_divisor" "_law_divisor" s__law_divisor f fd) : FnOk P w K mg base (CXR P w) 1 f fd ["_law_one", "_law_other"] (spD K 2 F__law_divisor) :=
  fn_ok 2 0 B__law_divisor F sc__law_divisor rfl rfl fun cdv AA outer s H E Z =>
   (dss_cons (ds_while Z (dt_cmp (op_neD Z.rm.units) od_ne (de_var 1) de_int) (dss_one (ds_par 0 1 Z (da_cons (de_var 1) (da_cons (de_bin op_modN od_mod (de_var 0) (de_var 1)) da_nil)) (fun _ h => ps_par rfl sc__law_divisor.nd rfl rfl (by decide) rfl rfl h rfl))))
    (dss_one (ds_ret (de_callB call_abs cd_abs A.m_abs PyProof.Rows.boot_abs (da_cons (de_var 0) da_nil)))))
theorem sc__law_number : FnScope ["_law_script", "_law_at", "_law_cell", "_law_way", "_law_top", "_law_bottom", "_law_by"] ["_law_script", "_law_at"] (defScope s__law_number) := ⟨rfl, rfl, rfl, by decide +kernel, rfl, by decide +kernel, by decide +kernel⟩
theorem ok__law_number (A : Facts K mg) (C__law_mixed : Cal P w K mg base (CXR P w) 1 "_law_mixed" ["_law_script", "_law_k"] (spD K 2 F__law_mixed)) (C__law_divisor : Cal P w K mg base (CXR P w) 1 "_law_divisor" ["_law_one", "_law_other"] (spD K 2 F__law_divisor)) (F : Fun K "_law_number" "_law_number" s__law_number f fd) : FnOk P w K mg base (CXR P w) 2 f fd ["_law_script", "_law_at"] (spD K 2 F__law_number) :=
  fn_ok 2 5 B__law_number F sc__law_number rfl rfl fun cdv AA outer s H E Z =>
   (dss_cons (ds_set 2 sc__law_number.nd (de_cal Z C__law_mixed (da_cons (de_var 0) (da_cons (de_var 1) da_nil))))
    (dss_cons (ds_set 3 sc__law_number.nd (de_bin op_modN od_mod (de_var 2) de_int))
    (dss_cons (ds_if (dt_cmp op_lt od_lt (de_var 3) de_int) (dss_one (ds_ret (de_tup (da_cons de_int (da_cons de_int da_nil))))) dss_nil)
    (dss_cons (ds_if (dt_cmp (op_eqD Z.rm.units) od_eq (de_var 3) de_int) (dss_one (ds_ret (de_tup (da_cons (de_ix (de_lst (da_cons de_int (da_cons (de_neg de_int) da_nil))) (de_bin op_modN od_mod (de_bin op_fdivW od_fdiv (de_var 2) de_int) de_int)) (da_cons de_int da_nil))))) dss_nil)
    (dss_cons (ds_set 4 sc__law_number.nd (de_bin op_add od_add (de_bin op_modN od_mod (de_bin op_fdivW od_fdiv (de_var 2) de_int) de_int) de_int))
    (dss_cons (ds_set 5 sc__law_number.nd (de_bin op_add od_add (de_bin op_modN od_mod (de_bin op_fdivW od_fdiv (de_var 2) de_int) de_int) de_int))
    (dss_cons (ds_if (dt_cmp (op_eqD Z.rm.units) od_eq (de_var 3) de_int) (dss_cons (ds_set 4 sc__law_number.nd (de_bin op_sub od_sub (de_bin op_sub od_sub (de_bin op_pow od_pow de_int de_int) de_int) (de_cal Z C__law_mixed (da_cons (de_var 0) (da_cons (de_bin op_add od_add (de_var 1) de_int) da_nil)))))
    (dss_one (ds_set 5 sc__law_number.nd (de_bin op_sub od_sub (de_bin op_sub od_sub (de_bin op_pow od_pow de_int de_int) de_int) (de_bin op_mulW od_mul (de_cal Z C__law_mixed (da_cons (de_var 0) (da_cons (de_bin op_add od_add (de_var 1) de_int) da_nil))) (de_ix (de_lst (da_cons de_int (da_cons de_int da_nil))) (de_bin op_modN od_mod (de_bin op_fdivW od_fdiv (de_var 2) de_int) de_int))))))) dss_nil)
    (dss_cons (ds_set 6 sc__law_number.nd (de_cal Z C__law_divisor (da_cons (de_var 4) (da_cons (de_var 5) da_nil))))
    (dss_one (ds_ret (de_tup (da_cons (de_bin op_mulW od_mul (de_ix (de_lst (da_cons de_int (da_cons (de_neg de_int) da_nil))) (de_bin op_modN od_mod (de_bin op_fdivW od_fdiv (de_var 2) de_int) de_int)) (de_bin op_fdivW od_fdiv (de_var 4) (de_var 6))) (da_cons (de_bin op_fdivW od_fdiv (de_var 5) (de_var 6)) da_nil)))))))))))))
theorem sc__law_term : FnScope ["_law_one", "_law_k", "_law_size", "_law_x"] ["_law_one", "_law_k"] (defScope s__law_term) := ⟨rfl, rfl, rfl, by decide +kernel, rfl, by decide +kernel, by decide +kernel⟩
theorem ok__law_term (A : Facts K mg) (F : Fun K "_law_term" "_law_term" s__law_term f fd) : FnOk P w K mg base (CXR P w) 1 f fd ["_law_one", "_law_k"] (spD K 2 F__law_term) :=
  fn_ok 2 2 B__law_term F sc__law_term rfl rfl fun cdv AA outer s H E Z =>
   (dss_cons (ds_set 2 sc__law_term.nd (de_callTy call_str_int cd_strI A.m_str PyProof.Rows.boot_str (da_cons (de_callB call_abs cd_abs A.m_abs PyProof.Rows.boot_abs (da_cons (de_ix (de_var 0) de_int) da_nil)) da_nil)))
    (dss_cons (ds_if (dt_cmp op_gt od_gt (de_ix (de_var 0) de_int) de_int) (dss_one (ds_set 2 sc__law_term.nd (de_bin op_add_str od_addS (de_bin op_add_str od_addS (de_var 2) de_str) (de_callTy call_str_int cd_strI A.m_str PyProof.Rows.boot_str (da_cons (de_ix (de_var 0) de_int) da_nil))))) dss_nil)
    (dss_cons (ds_if (dt_cmp (op_eqD Z.rm.units) od_eq (de_var 1) de_int) (dss_one (ds_ret (de_var 2))) dss_nil)
    (dss_cons (ds_set 3 sc__law_term.nd (de_ix (de_lst (da_cons de_str (da_cons (de_bin op_add_str od_addS de_str (de_callTy call_str_int cd_strI A.m_str PyProof.Rows.boot_str (da_cons (de_var 1) da_nil))) da_nil))) (de_callTy call_int1 cd_int A.m_int boot_int (da_cons (de_cmp op_gt od_gt (de_var 1) de_int) da_nil))))
    (dss_cons (ds_if (dt_cmp (op_eqD Z.rm.units) od_eq (de_var 2) de_str) (dss_one (ds_ret (de_var 3))) dss_nil)
    (dss_one (ds_ret (de_bin op_add_str od_addS (de_bin op_add_str od_addS (de_var 2) de_str) (de_var 3)))))))))
theorem sc__law_text : FnScope ["_law_curve_here", "_law_text_here", "_law_k", "_law_below"] ["_law_curve_here"] (defScope s__law_text) := ⟨rfl, rfl, rfl, by decide +kernel, rfl, by decide +kernel, by decide +kernel⟩
theorem ok__law_text (A : Facts K mg) (C__law_term : Cal P w K mg base (CXR P w) 1 "_law_term" ["_law_one", "_law_k"] (spD K 2 F__law_term)) (F : Fun K "_law_text" "_law_text" s__law_text f fd) : FnOk P w K mg base (CXR P w) 2 f fd ["_law_curve_here"] (spD K 1 F__law_text) :=
  fn_ok 1 3 B__law_text F sc__law_text rfl rfl fun cdv AA outer s H E Z =>
   (dss_cons (ds_set 1 sc__law_text.nd de_str)
    (dss_cons (ds_for Z (di_range1 A.m_range (da_cons (de_callB call_len_seq cd_len A.m_len PySem.boot_len (da_cons (de_var 0) da_nil)) da_nil)) (dg_name 2 sc__law_text.nd) (dss_cons (ds_set 3 sc__law_text.nd (de_callTy call_int1 cd_int A.m_int boot_int (da_cons (de_cmp op_lt od_lt (de_ix (de_ix (de_var 0) (de_var 2)) de_int) de_int) da_nil)))
    (dss_one (ds_if (DW.pt (dw_and (dt_cmp (op_neD Z.rm.units) od_ne (de_ix (de_ix (de_var 0) (de_var 2)) de_int) de_int) (dw_and1 (dt_cmp (op_eqD Z.rm.units) od_eq (de_var 1) de_str)))) (dss_one (ds_set 1 sc__law_text.nd (de_bin op_add_str od_addS (de_ix (de_lst (da_cons de_str (da_cons de_str da_nil))) (de_var 3)) (de_cal Z C__law_term (da_cons (de_ix (de_var 0) (de_var 2)) (da_cons (de_var 2) da_nil)))))) (dss_one (ds_if (dt_cmp (op_neD Z.rm.units) od_ne (de_ix (de_ix (de_var 0) (de_var 2)) de_int) de_int) (dss_one (ds_set 1 sc__law_text.nd (de_bin op_add_str od_addS (de_bin op_add_str od_addS (de_var 1) (de_ix (de_lst (da_cons de_str (da_cons de_str da_nil))) (de_var 3))) (de_cal Z C__law_term (da_cons (de_ix (de_var 0) (de_var 2)) (da_cons (de_var 2) da_nil)))))) dss_nil))))))
    (dss_cons (ds_if (dt_cmp (op_eqD Z.rm.units) od_eq (de_var 1) de_str) (dss_one (ds_ret de_str)) dss_nil)
    (dss_one (ds_ret (de_var 1))))))
theorem sc__law_curve : FnScope ["_law_script", "_law_at", "_law_some"] ["_law_script", "_law_at"] (defScope s__law_curve) := ⟨rfl, rfl, rfl, by decide +kernel, rfl, by decide +kernel, by decide +kernel⟩
theorem ok__law_curve (A : Facts K mg) (C__law_number : Cal P w K mg base (CXR P w) 2 "_law_number" ["_law_script", "_law_at"] (spD K 2 F__law_number)) (C__law_mixed : Cal P w K mg base (CXR P w) 1 "_law_mixed" ["_law_script", "_law_k"] (spD K 2 F__law_mixed)) (C__law_text : Cal P w K mg base (CXR P w) 2 "_law_text" ["_law_curve_here"] (spD K 1 F__law_text)) (F : Fun K "_law_curve" "_law_curve" s__law_curve f fd) : FnOk P w K mg base (CXR P w) 3 f fd ["_law_script", "_law_at"] (spD K 2 F__law_curve) :=
  fn_ok 2 1 B__law_curve F sc__law_curve rfl rfl fun cdv AA outer s H E Z =>
   (dss_cons (ds_lcA 2 Z (fun _ h => cell_has h) (by show compChk ["_law_script", "_law_at", "_law_some"] _ _ (defScope s__law_curve) = true; decide +kernel) (DI.c (di_range1 A.m_range (da_cons (de_bin op_modN od_mod (de_cal Z C__law_mixed (da_cons (de_var 0) (da_cons (de_bin op_add od_add (de_var 1) de_int) da_nil))) de_int) da_nil))) (fun _ _ _ _ _ Z => difs_nil) (fun _ _ _ _ _ Z => (de_cal Z C__law_number (da_cons (de_var 1) (da_cons (de_bin op_add od_add (de_var 2) (de_var 0)) da_nil)))))
    (dss_cons (ds_if (DW.pt (dw_and (dt_cmp op_gt od_gt (de_callB call_len_seq cd_len A.m_len PySem.boot_len (da_cons (de_var 2) da_nil)) de_int) (dw_and1 (dt_cmp (op_eqD Z.rm.units) od_eq (de_bin op_modN od_mod (de_cal Z C__law_mixed (da_cons (de_var 0) (da_cons (de_bin op_add od_add (de_var 1) de_int) da_nil))) de_int) de_int)))) (dss_one (ds_set 2 sc__law_curve.nd (de_bin op_cat od_cat (de_bin op_rep od_rep (de_lst (da_cons (de_tup (da_cons de_int (da_cons de_int da_nil))) da_nil)) (de_bin op_sub od_sub (de_callB call_len_seq cd_len A.m_len PySem.boot_len (da_cons (de_var 2) da_nil)) de_int)) (de_slice sl_list sd_list (de_var 2) (do_some (de_neg de_int)) do_none)))) dss_nil)
    (dss_cons (ds_while Z (DW.pt (dw_and (dt_cmp (op_neD Z.rm.units) od_ne (de_var 2) (de_lst da_nil)) (dw_and1 (DW.pt (dw_or (dt_cmp (op_eqD Z.rm.units) od_eq (de_ix (de_ix (de_var 2) (de_neg de_int)) de_int) de_int) (dw_or1 (dt_cmp op_gt od_gt (de_callB call_len_str cd_lenS A.m_len PySem.boot_len (da_cons (de_cal Z C__law_text (da_cons (de_var 2) da_nil)) da_nil)) de_int))))))) (dss_one (ds_pop 2)))
    (dss_one (ds_ret (de_callTy call_tuple_of cd_tuple A.m_tuple boot_tuple (da_cons (de_var 2) da_nil)))))))
theorem sc_check_text : FnScope ["text"] ["text"] (defScope s_check_text) := ⟨rfl, rfl, rfl, by decide +kernel, rfl, by decide +kernel, by decide +kernel⟩
theorem ok_check_text (A : Facts K mg) (F : Fun K "check_text" "check_text" s_check_text f fd) : FnOk P w K mg base (CXR P w) 1 f fd ["text"] (spD K 1 F_check_text) :=
  fn_ok 1 0 B_check_text F sc_check_text rfl rfl fun cdv AA outer s H E Z =>
   (dss_one (ds_if (dt_not (dt_val (de_isi A.m_isinstance A.ik_str (de_var 0) (pe_bltn (v := .ty "str") rfl A.m_str PyProof.Rows.boot_str rfl)))) (dss_one (ds_raise .NoText Z A.m_NoText A.q_NoText (da_cons de_str da_nil))) dss_nil))
theorem sc_sign_and_rest : FnScope ["text"] ["text"] (defScope s_sign_and_rest) := ⟨rfl, rfl, rfl, by decide +kernel, rfl, by decide +kernel, by decide +kernel⟩
theorem ok_sign_and_rest (A : Facts K mg) (F : Fun K "sign_and_rest" "sign_and_rest" s_sign_and_rest f fd) : FnOk P w K mg base (CXR P w) 1 f fd ["text"] (spD K 1 F_sign_and_rest) :=
  fn_ok 1 0 B_sign_and_rest F sc_sign_and_rest rfl rfl fun cdv AA outer s H E Z =>
   (dss_cons (ds_if (dt_val (de_starts (de_var 0))) (dss_one (ds_ret (de_tup (da_cons de_str (da_cons (de_slice sl_str sd_str (de_var 0) (do_some de_int) do_none) da_nil))))) dss_nil)
    (dss_one (ds_ret (de_tup (da_cons de_str (da_cons (de_var 0) da_nil))))))
theorem sc_terms_in : FnScope ["text", "parts", "found", "word"] ["text"] (defScope s_terms_in) := ⟨rfl, rfl, rfl, by decide +kernel, rfl, by decide +kernel, by decide +kernel⟩
theorem ok_terms_in (A : Facts K mg) (C_sign_and_rest : Cal P w K mg base (CXR P w) 1 "sign_and_rest" ["text"] (spD K 1 F_sign_and_rest)) (F : Fun K "terms_in" "terms_in" s_terms_in f fd) : FnOk P w K mg base (CXR P w) 2 f fd ["text"] (spD K 1 F_terms_in) :=
  fn_ok 1 3 B_terms_in F sc_terms_in rfl rfl fun cdv AA outer s H E Z =>
   (dss_cons (ds_set 1 sc_terms_in.nd (de_cal Z C_sign_and_rest (da_cons (de_var 0) da_nil)))
    (dss_nest 2 3 Z (de_ix (de_var 1) de_int) (di_list (de_split (de_ix (de_var 1) de_int))) (dt_cmp (hm := rfl) (op_inD Z.rm.units66) od_in (de_var 3) (de_tup (da_cons de_str (da_cons de_str da_nil)))) (by decide)))
theorem sc_sign : FnScope ["one"] ["one"] (defScope s_sign) := ⟨rfl, rfl, rfl, by decide +kernel, rfl, by decide +kernel, by decide +kernel⟩
theorem ok_sign (A : Facts K mg) (F : Fun K "sign" "sign" s_sign f fd) : FnOk P w K mg base (CXR P w) 1 f fd ["one"] (spD K 1 F_sign) :=
  fn_ok 1 0 B_sign F sc_sign rfl rfl fun cdv AA outer s H E Z =>
   (dss_cons (ds_if (dt_cmp op_gt od_gt (de_ix (de_var 0) de_int) de_int) (dss_one (ds_ret de_int)) dss_nil)
    (dss_cons (ds_if (dt_cmp op_lt od_lt (de_ix (de_var 0) de_int) de_int) (dss_one (ds_ret (de_neg de_int))) dss_nil)
    (dss_one (ds_ret de_int))))
theorem sc_curve_of : FnScope ["numbers", "size"] ["numbers"] (defScope s_curve_of) := ⟨rfl, rfl, rfl, by decide +kernel, rfl, by decide +kernel, by decide +kernel⟩
theorem ok_curve_of (A : Facts K mg) (C_sign : Cal P w K mg base (CXR P w) 1 "sign" ["one"] (spD K 1 F_sign)) (F : Fun K "curve_of" "curve_of" s_curve_of f fd) : FnOk P w K mg base (CXR P w) 2 f fd ["numbers"] (spD K 1 F_curve_of) :=
  fn_ok 1 1 B_curve_of F sc_curve_of rfl rfl fun cdv AA outer s H E Z =>
   (dss_cons (ds_set 1 sc_curve_of.nd (de_callB call_len_seq cd_len A.m_len PySem.boot_len (da_cons (de_var 0) da_nil)))
    (dss_cons (ds_while Z (DW.pt (dw_and (dt_cmp op_gt od_gt (de_var 1) de_int) (dw_and1 (dt_cmp (op_eqD Z.rm.units) od_eq (de_cal Z C_sign (da_cons (de_ix (de_var 0) (de_bin op_sub od_sub (de_var 1) de_int)) da_nil)) de_int)))) (dss_one (ds_set 1 sc_curve_of.nd (de_bin op_sub od_sub (de_var 1) de_int))))
    (dss_cons (ds_if (dt_cmp op_gt od_gt (de_var 1) (de_const A.c_MOST_NUMBERS)) (dss_one (ds_raise .TooGreat Z A.m_TooGreat A.q_TooGreat (da_cons de_str da_nil))) dss_nil)
    (dss_one (ds_ret (de_callTy call_tuple_of cd_tuple A.m_tuple boot_tuple (da_cons (de_slice sl_list sd_list (de_var 0) do_none (do_some (de_var 1))) da_nil)))))))
theorem sc_check_written : FnScope ["text", "told"] ["text", "told"] (defScope s_check_written) := ⟨rfl, rfl, rfl, by decide +kernel, rfl, by decide +kernel, by decide +kernel⟩
theorem ok_check_written (A : Facts K mg) (F : Fun K "check_written" "check_written" s_check_written f fd) : FnOk P w K mg base (CXR P w) 1 f fd ["text", "told"] (spD K 2 F_check_written) :=
  fn_ok 2 0 B_check_written F sc_check_written rfl rfl fun cdv AA outer s H E Z =>
   (dss_one (ds_if (dt_cmp (op_neD Z.rm.units) od_ne (de_var 0) (de_var 1)) (dss_one (ds_raise .NoText Z A.m_NoText A.q_NoText (da_cons de_str da_nil))) dss_nil))
theorem sc_whole_in : FnScope ["figures"] ["figures"] (defScope s_whole_in) := ⟨rfl, rfl, rfl, by decide +kernel, rfl, by decide +kernel, by decide +kernel⟩
theorem ok_whole_in (A : Facts K mg) (F : Fun K "whole_in" "whole_in" s_whole_in f fd) : FnOk P w K mg base (CXR P w) 1 f fd ["figures"] (spD K 1 F_whole_in) :=
  fn_ok 1 0 B_whole_in F sc_whole_in rfl rfl fun cdv AA outer s H E Z =>
   (dss_cons (ds_if (DW.pt (dw_or (dt_cmp (op_eqD Z.rm.units) od_eq (de_var 0) de_str) (dw_or (dt_cmp op_gt od_gt (de_callB call_len_str cd_lenS A.m_len PySem.boot_len (da_cons (de_var 0) da_nil)) (de_const A.c_MOST_FIGURES)) (dw_or1 (dt_not (dt_val (de_callB (call_all_bl Z.cm) cd_all A.m_all PyProof.Rows.boot_all (da_cons (de_lc Z (fun _ h => cell_has h) (by show compChk ["figures"] _ _ (defScope s_whole_in) = true; decide +kernel) (DI.c (di_str (de_var 0))) (fun _ _ _ _ _ Z => difs_nil) (fun _ _ _ _ _ Z => (de_cmp (hm := rfl) op_in_str od_inS (de_var 0) (de_const A.c_FIGURES)))) da_nil)))))))) (dss_one (ds_raise .NoText Z A.m_NoText A.q_NoText (da_cons de_str da_nil))) dss_nil)
    (dss_one (ds_ret (de_callTy call_int_text cd_intS A.m_int boot_int (da_cons (de_var 0) da_nil)))))
theorem sc_greatest_divisor : FnScope ["one", "other", "rest"] ["one", "other"] (defScope s_greatest_divisor) := ⟨rfl, rfl, rfl, by decide +kernel, rfl, by decide +kernel, by decide +kernel⟩
theorem ok_greatest_divisor (A : Facts K mg) (F : Fun K "greatest_divisor" "greatest_divisor" s_greatest_divisor f fd) : FnOk P w K mg base (CXR P w) 1 f fd ["one", "other"] (spD K 2 F_greatest_divisor) :=
  fn_ok 2 1 B_greatest_divisor F sc_greatest_divisor rfl rfl fun cdv AA outer s H E Z =>
   (dss_cons (ds_while Z (dt_cmp (op_neD Z.rm.units) od_ne (de_var 1) de_int) (dss_cons (ds_set 2 sc_greatest_divisor.nd (de_bin op_modN od_mod (de_var 0) (de_var 1)))
    (dss_cons (ds_set 0 sc_greatest_divisor.nd (de_var 1))
    (dss_one (ds_set 1 sc_greatest_divisor.nd (de_var 2))))))
    (dss_one (ds_ret (de_callB call_abs cd_abs A.m_abs PyProof.Rows.boot_abs (da_cons (de_var 0) da_nil)))))
theorem sc_number : FnScope ["top", "bottom", "divisor"] ["top", "bottom"] (defScope s_number) := ⟨rfl, rfl, rfl, by decide +kernel, rfl, by decide +kernel, by decide +kernel⟩
theorem ok_number (A : Facts K mg) (C_greatest_divisor : Cal P w K mg base (CXR P w) 1 "greatest_divisor" ["one", "other"] (spD K 2 F_greatest_divisor)) (F : Fun K "number" "number" s_number f fd) : FnOk P w K mg base (CXR P w) 2 f fd ["top", "bottom"] (spD K 2 F_number) :=
  fn_ok 2 1 B_number F sc_number rfl rfl fun cdv AA outer s H E Z =>
   (dss_cons (ds_if (dt_cmp (op_eqD Z.rm.units) od_eq (de_var 1) de_int) (dss_one (ds_raise .NoNumber Z A.m_NoNumber A.q_NoNumber (da_cons de_str da_nil))) dss_nil)
    (dss_cons (ds_set 2 sc_number.nd (de_cal Z C_greatest_divisor (da_cons (de_var 0) (da_cons (de_var 1) da_nil))))
    (dss_cons (ds_if (dt_cmp op_lt od_lt (de_var 1) de_int) (dss_one (ds_set 2 sc_number.nd (de_neg (de_var 2)))) dss_nil)
    (dss_one (ds_ret (de_tup (da_cons (de_bin op_fdivW od_fdiv (de_var 0) (de_var 2)) (da_cons (de_bin op_fdivW od_fdiv (de_var 1) (de_var 2)) da_nil))))))))
theorem sc_size_in : FnScope ["text", "parts", "top", "bottom"] ["text"] (defScope s_size_in) := ⟨rfl, rfl, rfl, by decide +kernel, rfl, by decide +kernel, by decide +kernel⟩
theorem ok_size_in (A : Facts K mg) (C_whole_in : Cal P w K mg base (CXR P w) 1 "whole_in" ["figures"] (spD K 1 F_whole_in)) (C_number : Cal P w K mg base (CXR P w) 2 "number" ["top", "bottom"] (spD K 2 F_number)) (F : Fun K "size_in" "size_in" s_size_in f fd) : FnOk P w K mg base (CXR P w) 3 f fd ["text"] (spD K 1 F_size_in) :=
  fn_ok 1 3 B_size_in F sc_size_in rfl rfl fun cdv AA outer s H E Z =>
   (dss_cons (ds_set 1 sc_size_in.nd (de_part (de_var 0)))
    (dss_cons (ds_set 2 sc_size_in.nd (de_cal Z C_whole_in (da_cons (de_ix (de_var 1) de_int) da_nil)))
    (dss_cons (ds_if (dt_cmp (op_eqD Z.rm.units) od_eq (de_ix (de_var 1) de_int) de_str) (dss_one (ds_ret (de_tup (da_cons (de_var 2) (da_cons de_int da_nil))))) dss_nil)
    (dss_cons (ds_set 3 sc_size_in.nd (de_cal Z C_whole_in (da_cons (de_ix (de_var 1) de_int) da_nil)))
    (dss_cons (ds_if (dt_cmp (op_eqD Z.rm.units) od_eq (de_var 3) de_int) (dss_one (ds_raise .NoText Z A.m_NoText A.q_NoText (da_cons de_str da_nil))) dss_nil)
    (dss_one (ds_ret (de_cal Z C_number (da_cons (de_var 2) (da_cons (de_var 3) da_nil))))))))))
theorem sc_power_in : FnScope ["word", "found"] ["word"] (defScope s_power_in) := ⟨rfl, rfl, rfl, by decide +kernel, rfl, by decide +kernel, by decide +kernel⟩
theorem ok_power_in (A : Facts K mg) (C_whole_in : Cal P w K mg base (CXR P w) 1 "whole_in" ["figures"] (spD K 1 F_whole_in)) (F : Fun K "power_in" "power_in" s_power_in f fd) : FnOk P w K mg base (CXR P w) 2 f fd ["word"] (spD K 1 F_power_in) :=
  fn_ok 1 1 B_power_in F sc_power_in rfl rfl fun cdv AA outer s H E Z =>
   (dss_cons (ds_if (dt_cmp (op_eqD Z.rm.units) od_eq (de_var 0) de_str) (dss_one (ds_ret de_int)) dss_nil)
    (dss_cons (ds_if (dt_not (dt_val (de_starts (de_var 0)))) (dss_one (ds_raise .NoText Z A.m_NoText A.q_NoText (da_cons de_str da_nil))) dss_nil)
    (dss_cons (ds_set 1 sc_power_in.nd (de_cal Z C_whole_in (da_cons (de_slice sl_str sd_str (de_var 0) (do_some de_int) do_none) da_nil)))
    (dss_cons (ds_if (dt_cmp op_ge od_ge (de_var 1) (de_const A.c_MOST_NUMBERS)) (dss_one (ds_raise .NoText Z A.m_NoText A.q_NoText (da_cons de_str da_nil))) dss_nil)
    (dss_one (ds_ret (de_var 1)))))))
theorem sc_term_in : FnScope ["words"] ["words"] (defScope s_term_in) := ⟨rfl, rfl, rfl, by decide +kernel, rfl, by decide +kernel, by decide +kernel⟩
theorem ok_term_in (A : Facts K mg) (C_size_in : Cal P w K mg base (CXR P w) 3 "size_in" ["text"] (spD K 1 F_size_in)) (C_power_in : Cal P w K mg base (CXR P w) 2 "power_in" ["word"] (spD K 1 F_power_in)) (F : Fun K "term_in" "term_in" s_term_in f fd) : FnOk P w K mg base (CXR P w) 4 f fd ["words"] (spD K 1 F_term_in) :=
  fn_ok 1 0 B_term_in F sc_term_in rfl rfl fun cdv AA outer s H E Z =>
   (dss_cons (ds_if (DW.pt (dw_and (dt_cmp (op_eqD Z.rm.units) od_eq (de_callB call_len_seq cd_len A.m_len PySem.boot_len (da_cons (de_var 0) da_nil)) de_int) (dw_and1 (dt_not (dt_val (de_starts (de_ix (de_var 0) de_int))))))) (dss_one (ds_ret (de_tup (da_cons de_int (da_cons (de_cal Z C_size_in (da_cons (de_ix (de_var 0) de_int) da_nil)) da_nil))))) dss_nil)
    (dss_cons (ds_if (dt_cmp (op_eqD Z.rm.units) od_eq (de_callB call_len_seq cd_len A.m_len PySem.boot_len (da_cons (de_var 0) da_nil)) de_int) (dss_one (ds_ret (de_tup (da_cons (de_cal Z C_power_in (da_cons (de_ix (de_var 0) de_int) da_nil)) (da_cons (de_const A.c_ONE) da_nil))))) dss_nil)
    (dss_cons (ds_if (dt_cmp (op_eqD Z.rm.units) od_eq (de_callB call_len_seq cd_len A.m_len PySem.boot_len (da_cons (de_var 0) da_nil)) de_int) (dss_one (ds_ret (de_tup (da_cons (de_cal Z C_power_in (da_cons (de_ix (de_var 0) de_int) da_nil)) (da_cons (de_cal Z C_size_in (da_cons (de_ix (de_var 0) de_int) da_nil)) da_nil))))) dss_nil)
    (dss_one (ds_raise .NoText Z A.m_NoText A.q_NoText (da_cons de_str da_nil))))))
theorem sc_minus : FnScope ["one", "other"] ["one", "other"] (defScope s_minus) := ⟨rfl, rfl, rfl, by decide +kernel, rfl, by decide +kernel, by decide +kernel⟩
theorem ok_minus (A : Facts K mg) (C_number : Cal P w K mg base (CXR P w) 2 "number" ["top", "bottom"] (spD K 2 F_number)) (F : Fun K "minus" "minus" s_minus f fd) : FnOk P w K mg base (CXR P w) 3 f fd ["one", "other"] (spD K 2 F_minus) :=
  fn_ok 2 0 B_minus F sc_minus rfl rfl fun cdv AA outer s H E Z =>
   (dss_one (ds_ret (de_cal Z C_number (da_cons (de_bin op_sub od_sub (de_bin op_mulW od_mul (de_ix (de_var 0) de_int) (de_ix (de_var 1) de_int)) (de_bin op_mulW od_mul (de_ix (de_var 1) de_int) (de_ix (de_var 0) de_int))) (da_cons (de_bin op_mulW od_mul (de_ix (de_var 0) de_int) (de_ix (de_var 1) de_int)) da_nil)))))
theorem sc_signed : FnScope ["word", "size"] ["word", "size"] (defScope s_signed) := ⟨rfl, rfl, rfl, by decide +kernel, rfl, by decide +kernel, by decide +kernel⟩
theorem ok_signed (A : Facts K mg) (C_minus : Cal P w K mg base (CXR P w) 3 "minus" ["one", "other"] (spD K 2 F_minus)) (F : Fun K "signed" "signed" s_signed f fd) : FnOk P w K mg base (CXR P w) 4 f fd ["word", "size"] (spD K 2 F_signed) :=
  fn_ok 2 0 B_signed F sc_signed rfl rfl fun cdv AA outer s H E Z =>
   (dss_cons (ds_if (dt_cmp (op_eqD Z.rm.units) od_eq (de_var 0) de_str) (dss_one (ds_ret (de_cal Z C_minus (da_cons (de_const A.c_NOUGHT) (da_cons (de_var 1) da_nil))))) dss_nil)
    (dss_one (ds_ret (de_var 1))))
theorem sc_show_number : FnScope ["one"] ["one"] (defScope s_show_number) := ⟨rfl, rfl, rfl, by decide +kernel, rfl, by decide +kernel, by decide +kernel⟩
theorem ok_show_number (A : Facts K mg) (F : Fun K "show_number" "show_number" s_show_number f fd) : FnOk P w K mg base (CXR P w) 1 f fd ["one"] (spD K 1 F_show_number) :=
  fn_ok 1 0 B_show_number F sc_show_number rfl rfl fun cdv AA outer s H E Z =>
   (dss_cons (ds_if (dt_cmp (op_eqD Z.rm.units) od_eq (de_ix (de_var 0) de_int) de_int) (dss_one (ds_ret (de_callTy call_str_int cd_strI A.m_str PyProof.Rows.boot_str (da_cons (de_ix (de_var 0) de_int) da_nil)))) dss_nil)
    (dss_one (ds_ret (de_bin op_add_str od_addS (de_bin op_add_str od_addS (de_callTy call_str_int cd_strI A.m_str PyProof.Rows.boot_str (da_cons (de_ix (de_var 0) de_int) da_nil)) de_str) (de_callTy call_str_int cd_strI A.m_str PyProof.Rows.boot_str (da_cons (de_ix (de_var 0) de_int) da_nil))))))
theorem sc_show_power : FnScope ["place"] ["place"] (defScope s_show_power) := ⟨rfl, rfl, rfl, by decide +kernel, rfl, by decide +kernel, by decide +kernel⟩
theorem ok_show_power (A : Facts K mg) (F : Fun K "show_power" "show_power" s_show_power f fd) : FnOk P w K mg base (CXR P w) 1 f fd ["place"] (spD K 1 F_show_power) :=
  fn_ok 1 0 B_show_power F sc_show_power rfl rfl fun cdv AA outer s H E Z =>
   (dss_cons (ds_if (dt_cmp (op_eqD Z.rm.units) od_eq (de_var 0) de_int) (dss_one (ds_ret de_str)) dss_nil)
    (dss_one (ds_ret (de_bin op_add_str od_addS de_str (de_callTy call_str_int cd_strI A.m_str PyProof.Rows.boot_str (da_cons (de_var 0) da_nil))))))
theorem sc_show_term : FnScope ["size", "place"] ["size", "place"] (defScope s_show_term) := ⟨rfl, rfl, rfl, by decide +kernel, rfl, by decide +kernel, by decide +kernel⟩
theorem ok_show_term (A : Facts K mg) (C_show_number : Cal P w K mg base (CXR P w) 1 "show_number" ["one"] (spD K 1 F_show_number)) (C_show_power : Cal P w K mg base (CXR P w) 1 "show_power" ["place"] (spD K 1 F_show_power)) (F : Fun K "show_term" "show_term" s_show_term f fd) : FnOk P w K mg base (CXR P w) 2 f fd ["size", "place"] (spD K 2 F_show_term) :=
  fn_ok 2 0 B_show_term F sc_show_term rfl rfl fun cdv AA outer s H E Z =>
   (dss_cons (ds_if (dt_cmp (op_eqD Z.rm.units) od_eq (de_var 1) de_int) (dss_one (ds_ret (de_cal Z C_show_number (da_cons (de_var 0) da_nil)))) dss_nil)
    (dss_cons (ds_if (dt_cmp (op_eqD Z.rm.units) od_eq (de_var 0) (de_const A.c_ONE)) (dss_one (ds_ret (de_cal Z C_show_power (da_cons (de_var 1) da_nil)))) dss_nil)
    (dss_one (ds_ret (de_bin op_add_str od_addS (de_bin op_add_str od_addS (de_cal Z C_show_number (da_cons (de_var 0) da_nil)) de_str) (de_cal Z C_show_power (da_cons (de_var 1) da_nil)))))))
theorem sc_show_curve : FnScope ["curve", "found", "place", "one"] ["curve"] (defScope s_show_curve) := ⟨rfl, rfl, rfl, by decide +kernel, rfl, by decide +kernel, by decide +kernel⟩
theorem ok_show_curve (A : Facts K mg) (C_sign : Cal P w K mg base (CXR P w) 1 "sign" ["one"] (spD K 1 F_sign)) (C_show_term : Cal P w K mg base (CXR P w) 2 "show_term" ["size", "place"] (spD K 2 F_show_term)) (F : Fun K "show_curve" "show_curve" s_show_curve f fd) : FnOk P w K mg base (CXR P w) 3 f fd ["curve"] (spD K 1 F_show_curve) :=
  fn_ok 1 3 B_show_curve F sc_show_curve rfl rfl fun cdv AA outer s H E Z =>
   (dss_cons (ds_set 1 sc_show_curve.nd de_str)
    (dss_cons (ds_for Z (di_range1 A.m_range (da_cons (de_callB call_len_seq cd_len A.m_len PySem.boot_len (da_cons (de_var 0) da_nil)) da_nil)) (dg_name 2 sc_show_curve.nd) (dss_cons (ds_set 3 sc_show_curve.nd (de_ix (de_var 0) (de_var 2)))
    (dss_cons (ds_if (dt_cmp (op_eqD Z.rm.units) od_eq (de_cal Z C_sign (da_cons (de_var 3) da_nil)) de_int) (dss_one ds_continue) dss_nil)
    (dss_cons (ds_if (dt_cmp (op_neD Z.rm.units) od_ne (de_var 1) de_str) (dss_one (ds_set 1 sc_show_curve.nd (de_bin op_add_str od_addS (de_var 1) (de_ifExp (dt_cmp op_lt od_lt (de_cal Z C_sign (da_cons (de_var 3) da_nil)) de_int) de_str de_str)))) (dss_one (ds_if (dt_cmp op_lt od_lt (de_cal Z C_sign (da_cons (de_var 3) da_nil)) de_int) (dss_one (ds_set 1 sc_show_curve.nd de_str)) dss_nil)))
    (dss_one (ds_set 1 sc_show_curve.nd (de_bin op_add_str od_addS (de_var 1) (de_cal Z C_show_term (da_cons (de_tup (da_cons (de_callB call_abs cd_abs A.m_abs PyProof.Rows.boot_abs (da_cons (de_ix (de_var 3) de_int) da_nil)) (da_cons (de_ix (de_var 3) de_int) da_nil))) (da_cons (de_var 2) da_nil))))))))))
    (dss_one (ds_ret (de_ifExp (dt_cmp (op_neD Z.rm.units) od_ne (de_var 1) de_str) (de_var 1) de_str)))))
theorem sc_read_curve : FnScope ["text", "numbers", "words", "found", "term"] ["text"] (defScope s_read_curve) := ⟨rfl, rfl, rfl, by decide +kernel, rfl, by decide +kernel, by decide +kernel⟩
theorem ok_read_curve (A : Facts K mg) (C_check_text : Cal P w K mg base (CXR P w) 1 "check_text" ["text"] (spD K 1 F_check_text)) (C_terms_in : Cal P w K mg base (CXR P w) 2 "terms_in" ["text"] (spD K 1 F_terms_in)) (C_curve_of : Cal P w K mg base (CXR P w) 2 "curve_of" ["numbers"] (spD K 1 F_curve_of)) (C_check_written : Cal P w K mg base (CXR P w) 1 "check_written" ["text", "told"] (spD K 2 F_check_written)) (C_term_in : Cal P w K mg base (CXR P w) 4 "term_in" ["words"] (spD K 1 F_term_in)) (C_signed : Cal P w K mg base (CXR P w) 4 "signed" ["word", "size"] (spD K 2 F_signed)) (C_show_curve : Cal P w K mg base (CXR P w) 3 "show_curve" ["curve"] (spD K 1 F_show_curve)) (F : Fun K "read_curve" "read_curve" s_read_curve f fd) : FnOk P w K mg base (CXR P w) 5 f fd ["text"] (spD K 1 F_read_curve) :=
  fn_ok 1 4 B_read_curve F sc_read_curve rfl rfl fun cdv AA outer s H E Z =>
   (dss_cons (ds_expr (de_cal Z C_check_text (da_cons (de_var 0) da_nil)))
    (dss_cons (ds_set 1 sc_read_curve.nd (de_bin op_rep od_rep (de_lst (da_cons (de_const A.c_NOUGHT) da_nil)) (de_const A.c_MOST_NUMBERS)))
    (dss_cons (ds_for Z (di_list (de_cal Z C_terms_in (da_cons (de_var 0) da_nil))) (dg_name 2 sc_read_curve.nd) (dss_cons (ds_set 4 sc_read_curve.nd (de_cal Z C_term_in (da_cons (de_slice sl_list sd_list (de_var 2) (do_some de_int) do_none) da_nil)))
    (dss_one (ds_put 1 (de_cal Z C_signed (da_cons (de_ix (de_var 2) de_int) (da_cons (de_ix (de_var 4) de_int) da_nil))) (de_ix (de_var 4) de_int)))))
    (dss_cons (ds_set 3 sc_read_curve.nd (de_cal Z C_curve_of (da_cons (de_var 1) da_nil)))
    (dss_cons (ds_expr (de_cal Z C_check_written (da_cons (de_var 0) (da_cons (de_cal Z C_show_curve (da_cons (de_var 3) da_nil)) da_nil))))
    (dss_one (ds_ret (de_var 3))))))))
theorem sc__law_right : FnScope ["_law_curve_here", "_law_found", "_law_one"] ["_law_curve_here"] (defScope s__law_right) := ⟨rfl, rfl, rfl, by decide +kernel, rfl, by decide +kernel, by decide +kernel⟩
theorem ok__law_right (A : Facts K mg) (C_read_curve : Cal P w K mg base (CXR P w) 5 "read_curve" ["text"] (spD K 1 F_read_curve)) (C__law_text : Cal P w K mg base (CXR P w) 2 "_law_text" ["_law_curve_here"] (spD K 1 F__law_text)) (F : Fun K "_law_right" "_law_right" s__law_right f fd) : FnOk P w K mg base (CXR P w) 6 f fd ["_law_curve_here"] (spD K 1 F__law_right) :=
  fn_ok 1 2 B__law_right F sc__law_right rfl rfl fun cdv AA outer s H E Z =>
   (dss_cons (ds_set 1 sc__law_right.nd (de_cal Z C_read_curve (da_cons (de_cal Z C__law_text (da_cons (de_var 0) da_nil)) da_nil)))
    (dss_cons (ds_if (DW.pt (dw_or (dt_not (dt_val (de_isi A.m_isinstance A.ik_tuple (de_var 1) (pe_bltn (v := .ty "tuple") rfl A.m_tuple PyProof.Rows.boot_tuple rfl)))) (dw_or1 (dt_cmp (op_neD Z.rm.units) od_ne (de_var 1) (de_var 0))))) (dss_one (ds_ret de_bl)) dss_nil)
    (dss_cons (ds_for Z (di_tup (de_var 1)) (dg_name 2 sc__law_right.nd) (dss_one (ds_if (DW.pt (dw_or (dt_not (dt_val (de_isi A.m_isinstance A.ik_tuple (de_var 2) (pe_bltn (v := .ty "tuple") rfl A.m_tuple PyProof.Rows.boot_tuple rfl)))) (dw_or (dt_val (de_isi A.m_isinstance A.ik_bool (de_ix (de_var 2) de_int) (pe_bltn (v := .ty "bool") rfl A.m_bool PyProof.Rows.boot_bool rfl))) (dw_or1 (dt_val (de_isi A.m_isinstance A.ik_bool (de_ix (de_var 2) de_int) (pe_bltn (v := .ty "bool") rfl A.m_bool PyProof.Rows.boot_bool rfl))))))) (dss_one (ds_ret de_bl)) dss_nil)))
    (dss_one (ds_ret de_bl)))))
theorem sc_law : FnScope ["_law_script", "_law_one", "_law_other"] ["_law_script"] (defScope s_law) := ⟨rfl, rfl, rfl, by decide +kernel, rfl, by decide +kernel, by decide +kernel⟩
theorem ok_law (A : Facts K mg) (C__law_curve : Cal P w K mg base (CXR P w) 3 "_law_curve" ["_law_script", "_law_at"] (spD K 2 F__law_curve)) (C__law_right : Cal P w K mg base (CXR P w) 6 "_law_right" ["_law_curve_here"] (spD K 1 F__law_right)) (C_read_curve : Cal P w K mg base (CXR P w) 5 "read_curve" ["text"] (spD K 1 F_read_curve)) (F : Fun K "law" "law" s_law f fd) : FnOk P w K mg base (CXR P w) 7 f fd ["_law_script"] (spD K 1 F_law) :=
  fn_ok 1 2 B_law F sc_law rfl rfl fun cdv AA outer s H E Z =>
   (dss_cons (ds_set 1 sc_law.nd (de_cal Z C__law_curve (da_cons (de_var 0) (da_cons de_int da_nil))))
    (dss_cons (ds_set 2 sc_law.nd (de_cal Z C__law_curve (da_cons (de_var 0) (da_cons de_int da_nil))))
    (dss_one (ds_ret (de_and (de_cal Z C__law_right (da_cons (de_var 1) da_nil)) (de_and (de_cal Z C__law_right (da_cons (de_var 2) da_nil)) (de_and (de_cal Z C__law_right (da_cons (de_var 1) da_nil)) (de_one (de_cmp (op_eqD Z.rm.units) od_eq (de_cal Z C_read_curve (da_cons de_str da_nil)) (de_tup da_nil))))))))))
end
end Law

set_option Elab.async false
set_option linter.all false
set_option maxRecDepth 100000
set_option maxHeartbeats 1000000
set_option exponentiation.threshold 20000
namespace Law
open PySem L2 L3 D3
local macro_rules | `(tactic| walk_at "ev") => `(tactic| first
  | assumption
  | with_reducible refine ev_f2 ?_ ?_ ?_ <;> walk_at "ev"
  | with_reducible refine ev_fB ?_ ?_ <;> walk_at "ev"
  | with_reducible refine ev_fV ?_ <;> walk_at "ev"
  | with_reducible refine ev_not ?_ <;> walk_at "ev"
  | with_reducible refine ev_fU ?_ ?_ <;> walk_at "ev"
  | with_reducible refine ev_cons ?_ ?_ <;> walk_at "ev"
  | with_reducible refine ev_call ?_ ?_ <;> walk_at "ev"
  | with_reducible exact gEq_int _ _
  | with_reducible exact gNe_int _ _
  | with_reducible exact ix_t0
  | with_reducible exact ix_t1
  | with_reducible refine gMulI ?_ <;> walk_at "sd"
  | with_reducible refine gModP ?_ <;> walk_at "sd"
  | with_reducible refine gFdivP ?_ ?_ <;> walk_at "sd"
  | with_reducible refine gPowI ?_ <;> exact ⟨by decide, by decide, by decide⟩
  | with_reducible refine ev_gF rfl rfl ?_ rfl <;> walk_at "fn"
  | with_reducible rfl
  | rfl)
local macro_rules | `(tactic| walk_at "sd") => `(tactic| first | assumption | omega | decide)
local macro_rules | `(tactic| walk_at "fn") => `(tactic| assumption)
local macro_rules | `(tactic| walk_at "ss") => `(tactic| (simp only [List.set_cons_succ, List.set_cons_zero] <;> rfl))
/-! statements, one after another, as far as no test is open -/
local macro_rules | `(tactic| walk_at "st") => `(tactic| first
  | with_reducible refine ev_sset ?_ rfl ?_ ?_; rotate_left 1; (walk_at "ss"); rotate_left 1)
theorem gd_turn (a b : Int) (r : Sl) (hb : b ≠ 0) : (fSeq (fSet 2 (f2 (gI gMod) (fVar 0) (fVar 1)))
    (fSeq (fSet 0 (fVar 1))
    (fSet 1 (fVar 2)))) [.dat (.int a), .dat (.int b), r] = some (.next [.dat (.int b), .dat (.int (a.fmod b)), .dat (.int (a.fmod b))]) := by
  refine ev_sset (ev_f2 rfl rfl (gModI hb)) rfl (by walk_at "ss") ?_
  refine ev_sset rfl rfl (by walk_at "ss") ?_
  exact ev_set rfl rfl rfl
theorem F_gd (a b : Int) : F_greatest_divisor [.int a, .int b] = okM (.val (.int (Int.gcd a b : Int))) := by
  refine ev_fn rfl ?_
  show B_greatest_divisor [.dat (.int a), .dat (.int b), .no] = _
  unfold B_greatest_divisor
  obtain ⟨δ', e, x, r, rfl, hx⟩ := whN_inv (c := (fB (f2 (gEq true) (fVar 1) (fC (.int 0))))) (b := (fSeq (fSet 2 (f2 (gI gMod) (fVar 0) (fVar 1)))
    (fSeq (fSet 0 (fVar 1))
    (fSet 1 (fVar 2))))) (δ := [.dat (.int a), .dat (.int b), .no])
    (fun δ => ∃ (x y : Int) (r : Sl), δ = [.dat (.int x), .dat (.int y), r] ∧ Int.gcd x y = Int.gcd a b)
    (fun δ => ∃ (x : Int) (r : Sl), δ = [.dat (.int x), .dat (.int 0), r] ∧ Int.gcd x 0 = Int.gcd a b)
    (fun δ => match δ with | [_, .dat (.int y), _] => y.natAbs | _ => 0)
    (by
      rintro δ ⟨x, y, r, rfl, hg⟩
      by_cases hy : y = 0
      · subst hy
        exact .inl ⟨ev_fB (ev_f2 rfl rfl (gNe_int _ _)) rfl, x, r, rfl, hg⟩
      · refine .inr ⟨?_, _, gd_turn x y r hy, ⟨y, x.fmod y, _, rfl, ?_⟩, NB.fmod_lt x y hy⟩
        · have := ev_fB (δ := [.dat (.int x), .dat (.int y), r]) (f := f2 (gEq true) (fVar 1) (fC (.int 0))) (ev_f2 rfl rfl (gNe_int y 0)) rfl
          rw [this, decide_eq_false hy]; rfl
        · rw [NB.gcd_fmod]; exact hg) ⟨a, b, .no, rfl, rfl⟩
  refine ev_seq e ?_
  refine ev_ret (ev_call rfl rfl) ?_
  have e2 : (if x < 0 then -x else x) = (Int.gcd a b : Int) := by
    rw [← hx, Int.gcd_zero_right]
    split <;> omega
  rw [e2]; rfl
theorem gcd_small {t b : Int} (hb : b ≠ 0) (hz : b.natAbs < 2 ^ 9000) : (Int.gcd t b) < 2 ^ 9000 := by
  refine Nat.lt_of_le_of_lt ?_ hz
  have h := Int.natAbs_dvd_natAbs.mpr (Int.gcd_dvd_right t b)
  rw [Int.natAbs_natCast] at h
  exact Nat.le_of_dvd (by omega) h
theorem F_num (t b : Int) (hb : b ≠ 0) (hz : b.natAbs < 2 ^ 9000) : F_number [.int t, .int b] = okM (.val (nD (Rat.divInt t b))) := by
  refine ev_fn rfl ?_
  show B_number [.dat (.int t), .dat (.int b), .no] = _
  unfold B_number
  refine ev_sifF (by rw [ev_fB (ev_f2 rfl rfl (gEq_int b 0)) rfl, decide_eq_false hb]) ?_
  refine ev_snext ?_
  refine ev_sset (ev_call rfl (ev_gF rfl rfl (F_gd t b) rfl)) rfl (by walk_at "ss") ?_
  have gs := gcd_small (t := t) hb hz
  have fin : ∀ d : Int, d = (if b < 0 then -(Int.gcd t b : Int) else (Int.gcd t b : Int)) → (fRet (fCall D3.gTup (fCons (f2 (gI gFdiv) (fVar 0) (fVar 2)) (fCons (f2 (gI gFdiv) (fVar 1) (fVar 2)) fNil)))) [.dat (.int t), .dat (.int b), .dat (.int d)] = some (.ret (.val (nD (Rat.divInt t b)))) := fun d hd => by
    obtain ⟨h0, e1, e2⟩ := NB.num_low t b hb d hd
    have hs : d.natAbs < 2 ^ 9000 := by rw [hd]; split <;> omega
    refine ev_ret (ev_call (ev_cons (ev_f2 rfl rfl (gFdivI h0 hs)) (ev_cons (ev_f2 rfl rfl (gFdivI h0 hs)) rfl)) rfl) ?_
    rw [e1, e2]; rfl
  refine ev_sif (ev_fB (ev_f2 rfl rfl rfl) rfl) (fun c => ?_) (fun c => ?_)
  · have c' : b < 0 := of_decide_eq_true c
    refine ev_sset (ev_fU rfl rfl) rfl (by walk_at "ss") ?_
    exact fin _ (by rw [if_pos c'])
  · have c' : ¬ b < 0 := of_decide_eq_false c
    exact ev_snext (fin _ (by rw [if_neg c']))
def mixF (ns : List Int) (k : Int) : Int :=
  (((if 0 < ns.length then ns.getD (k % (ns.length : Int)).toNat 0 else 7) % 2147483629 + 6151 * k + 1) * 48271 % 2147483647) *
    ((((if 0 < ns.length then ns.getD (k % (ns.length : Int)).toNat 0 else 7) % 2147483629 + 6151 * k + 1) * 48271 % 2147483647) % 65519 + k + 2) % 2147483629
theorem mixF_nonneg (ns : List Int) (k : Int) : 0 ≤ mixF ns k := Int.emod_nonneg _ (by decide)
theorem mixF_lt (ns : List Int) (k : Int) : mixF ns k < 2147483629 := Int.emod_lt_of_pos _ (by decide)
/-- the script -/
def scr (ns : List Int) : PyData := .list (ns.map PyData.int)
theorem F_mix (ns : List Int) (k : Int) (h0 : 0 ≤ k) (h1 : k ≤ 1000000) : F__law_mixed [scr ns, .int k] = okM (.val (.int (mixF ns k))) := by
  refine ev_fn rfl ?_
  show B__law_mixed [.dat (scr ns), .dat (.int k), .no] = _
  unfold B__law_mixed
  refine ev_sset rfl rfl (by walk_at "ss") ?_
  have hlen : lenOf (.dat (scr ns)) = okM (.dat (.int (ns.length : Int))) := by
    show okM (Rz.dat (PyData.int ((ns.map PyData.int).length : Int))) = _
    rw [List.length_map]
  have fin : ∀ c : Int, c = (if 0 < ns.length then ns.getD (k % (ns.length : Int)).toNat 0 else 7) → (fSeq (fSet 2 (f2 (gI gMod) (f2 (gI gMul) (f2 (gI gAdd) (f2 (gI gAdd) (f2 (gI gMod) (fVar 2) (fC (.int 2147483629))) (f2 (gI gMul) (fC (.int 6151)) (fVar 1))) (fC (.int 1))) (fC (.int 48271))) (fC (.int 2147483647))))
    (fRet (f2 (gI gMod) (f2 (gI gMul) (fVar 2) (f2 (gI gAdd) (f2 (gI gAdd) (f2 (gI gMod) (fVar 2) (fC (.int 65519))) (fVar 1)) (fC (.int 2)))) (fC (.int 2147483629))))) [.dat (scr ns), .dat (.int k), .dat (.int c)] = some (.ret (.val (.int (mixF ns k)))) := fun c hc => by
    have m2 := Int.emod_nonneg ((c % 2147483629 + 6151 * k + 1) * 48271) (b := 2147483647) (by decide)
    have m3 := Int.emod_lt_of_pos ((c % 2147483629 + 6151 * k + 1) * 48271) (b := 2147483647) (by decide)
    refine ev_sset (ev_f2 (ev_f2 (ev_f2 (ev_f2 (ev_f2 rfl rfl (gModP (by decide))) (ev_f2 rfl rfl (gMulI (mul_l (by decide) (by decide)))) rfl) rfl rfl) rfl (gMulI (mul_r (by decide) (by decide)))) rfl (gModP (by decide))) rfl (by walk_at "ss") ?_
    refine ev_ret (ev_f2 (ev_f2 rfl (ev_f2 (ev_f2 (ev_f2 rfl rfl (gModP (by decide))) rfl rfl) rfl rfl) (gMulI (mul_l (by omega) (by omega)))) rfl (gModP (by decide))) ?_
    unfold mixF
    rw [← hc]; rfl
  refine ev_sif (ev_fB (ev_f2 (ev_call rfl (show g1 lenOf [Rz.dat (scr ns)] = _ from hlen)) rfl rfl) rfl) (fun c => ?_) (fun c => ?_)
  · have c' : (0 : Int) < (ns.length : Int) := of_decide_eq_true c
    have cn : 0 < ns.length := by omega
    have hr1 := Int.emod_nonneg k (b := (ns.length : Int)) (by omega)
    have hr2 := Int.emod_lt_of_pos k c'
    refine ev_sset (ev_f2 rfl (ev_f2 rfl (ev_call rfl (show g1 lenOf [Rz.dat (scr ns)] = _ from hlen)) (gModP c')) (ix_lst (j := (k % (ns.length : Int)).toNat) (d := .int (ns.getD (k % (ns.length : Int)).toNat 0)) (by omega) ?_)) rfl (by walk_at "ss") ?_
    · have hk : (k % (ns.length : Int)).toNat < ns.length := by omega
      rw [List.getElem?_map, List.getElem?_eq_getElem hk, List.getD_eq_getElem?_getD, List.getElem?_eq_getElem hk]; rfl
    · exact fin _ (by rw [if_pos cn])
  · have c' : ¬ (0 : Int) < (ns.length : Int) := of_decide_eq_false c
    have cn : ¬ 0 < ns.length := by omega
    exact ev_snext (fin 7 (by rw [if_neg cn]))
theorem ev_fI {δ : List Sl} {g : Rz → M (List PyData)} {f : List Sl → M Rz} {x : Rz} {items : List PyData} (h1 : f δ = okM x) (h2 : g x = okM items) : fI g f δ = okM items := by unfold fI; rw [h1, bnd_okM, h2]
/-! curves as lists of fractions -/
def cD (l : List Rat) : PyData := .tuple (l.map nD)
def lD (l : List Rat) : PyData := .list (l.map nD)
theorem noLs_nD : ∀ l : List Rat, noLs (l.map nD) = true
  | [] => by simp [noLs]
  | q :: l => by simp only [List.map_cons, noLs, noL_num, noLs_nD l, Bool.and_self]
theorem noL_cD (l : List Rat) : noL (cD l) = true := by unfold cD noL; exact noLs_nD l
theorem lay_num (q : Rat) : PyData.canLay0 (nD q) = true := by simp [nD, PyData.canLay0, PyData.canLayAll0]
theorem dep_num (q : Rat) : PyData.depth (nD q) ≤ 2 := by simp [nD, PyData.depth, PyData.depthAll]
theorem lay_nums : ∀ l : List Rat, PyData.canLayAll0 (l.map nD) = true
  | [] => by simp [PyData.canLayAll0]
  | q :: l => by simp only [List.map_cons, PyData.canLayAll0, lay_num, lay_nums l, Bool.and_self]
theorem dep_nums : ∀ l : List Rat, PyData.depthAll (l.map nD) ≤ 2
  | [] => by simp [PyData.depthAll]
  | q :: l => by
    have h1 := dep_num q
    have h2 := dep_nums l
    simp only [List.map_cons, PyData.depthAll]
    omega
theorem okD_cD (l : List Rat) : okD (cD l) = true := by
  have h := dep_nums l
  unfold okD SeqAt.shaped cD
  have e : ∀ n : Nat, n ≤ 64 → decide (n ≤ 64) = true := fun n h => decide_eq_true h
  simp only [PyData.canLay0, lay_nums, PyData.depth, Bool.true_and]
  exact e _ (by omega)
theorem okD_lD (l : List Rat) : okD (lD l) = true := by
  have h := dep_nums l
  unfold okD SeqAt.shaped lD
  have e : ∀ n : Nat, n ≤ 64 → decide (n ≤ 64) = true := fun n h => decide_eq_true h
  simp only [PyData.canLay0, lay_nums, PyData.depth, Bool.true_and]
  exact e _ (by omega)
theorem eqv_nums : ∀ l m : List Rat, PyData.eqvAll (l.map nD) (m.map nD) = decide (l = m)
  | [], [] => by simp [PyData.eqvAll]
  | [], q :: m => by simp [PyData.eqvAll]
  | q :: l, [] => by simp [PyData.eqvAll]
  | q :: l, p :: m => by
    simp only [List.map_cons, PyData.eqvAll, eqv_num, eqv_nums l m]
    by_cases h1 : q = p <;> by_cases h2 : l = m <;> simp [h1, h2]
theorem eqv_cD (l m : List Rat) : PyData.eqv (cD l) (cD m) = decide (l = m) := by unfold cD; simp only [PyData.eqv]; exact eqv_nums l m
theorem eqv_lD (l m : List Rat) : PyData.eqv (lD l) (lD m) = decide (l = m) := by unfold lD; simp only [PyData.eqv]; exact eqv_nums l m
theorem gEqD {x y : Rz} {d e : PyData} {b : Bool} (hx : x.d? = some d) (hy : y.d? = some e) (od : okD d = true) (oe : okD e = true) (h : PyData.eqv d e = b) : gEq false x y = okM (.dat (.bool b)) := by
  unfold gEq; rw [hx, hy]; dsimp only; rw [if_pos ⟨od, oe⟩, h]; rfl
theorem gNeD {x y : Rz} {d e : PyData} {b : Bool} (hx : x.d? = some d) (hy : y.d? = some e) (od : okD d = true) (oe : okD e = true) (h : PyData.eqv d e = !b) : gEq true x y = okM (.dat (.bool b)) := by
  unfold gEq; rw [hx, hy]; dsimp only; rw [if_pos ⟨od, oe⟩, h]; simp
theorem outZ_num (q : Rat) : outZ (.val (nD q)) = .dat (nD q) := by unfold outZ; dsimp only; rw [if_pos (noL_num q)]
theorem outZ_cur (l : List Rat) : outZ (.val (cD l)) = .dat (cD l) := by unfold outZ; dsimp only; rw [if_pos (noL_cD l)]
theorem get_nD {l : List Rat} {i : Nat} {q : Rat} (h : l[i]? = some q) : (l.map nD)[i]? = some (nD q) := by rw [List.getElem?_map, h]; rfl
/-! worths -/
def ev : List Rat → Rat → Rat
  | [], _ => 0
  | a :: l, x => a + x * ev l x
/-! noughts at the end left out -/
def trim (l : List Rat) : List Rat := (l.reverse.dropWhile (· == 0)).reverse
theorem trim_snoc0 (l : List Rat) : trim (l ++ [0]) = trim l := by unfold trim; simp
theorem trim_snoc {l : List Rat} {a : Rat} (h : a ≠ 0) : trim (l ++ [a]) = l ++ [a] := by
  unfold trim
  simp [h]
theorem trim_zeros (l : List Rat) (n : Nat) : trim (l ++ List.replicate n 0) = trim l := by
  induction n with
  | zero => simp
  | succ n ih => rw [List.replicate_succ', ← List.append_assoc, trim_snoc0, ih]
theorem rev_ind {P : List Rat → Prop} (h0 : P []) (h1 : ∀ l a, P l → P (l ++ [a])) (l : List Rat) : P l := by
  have : ∀ r : List Rat, P r.reverse := fun r => by
    induction r with
    | nil => exact h0
    | cons a r ih => rw [List.reverse_cons]; exact h1 _ a ih
  have := this l.reverse
  rwa [List.reverse_reverse] at this
/-- the list up to its last number that isn't nought -/
theorem trim_ex (l : List Rat) : ∃ n, l = trim l ++ List.replicate n 0 := by
  refine rev_ind (P := fun l => ∃ n, l = trim l ++ List.replicate n 0) ⟨0, rfl⟩ (fun l a ih => ?_) l
  · by_cases h : a = 0
    · subst h
      obtain ⟨n, e⟩ := ih
      refine ⟨n + 1, ?_⟩
      rw [trim_snoc0, List.replicate_succ', ← List.append_assoc, ← e]
    · exact ⟨0, by rw [trim_snoc h]; simp⟩
theorem trim_last (l : List Rat) : trim l = [] ∨ ∃ m a, trim l = m ++ [a] ∧ a ≠ 0 := by
  refine rev_ind (P := fun l => trim l = [] ∨ ∃ m a, trim l = m ++ [a] ∧ a ≠ 0) (.inl rfl) (fun l a ih => ?_) l
  · by_cases h : a = 0
    · subst h; rw [trim_snoc0]; exact ih
    · exact .inr ⟨l, a, trim_snoc h, h⟩
theorem trim_len (l : List Rat) : (trim l).length ≤ l.length := by
  obtain ⟨n, e⟩ := trim_ex l
  have := congrArg List.length e
  rw [List.length_append] at this
  omega
theorem trim_take (l : List Rat) : trim l = l.take (trim l).length := by
  obtain ⟨n, e⟩ := trim_ex l
  have h : l.take (trim l).length = (trim l ++ List.replicate n 0).take (trim l).length := by rw [← e]
  rw [h, List.take_left]

theorem P_minus (p q : Rat) (zp : NB.Sz 4000 p) (zq : NB.Sz 4000 q) : F_minus [nD p, nD q] = okM (.val (nD (p - q))) := by
  refine ev_fn rfl ?_
  show B_minus [.dat (nD p), .dat (nD q)] = _
  unfold B_minus
  have m1 : ∀ {u v : Int}, u.natAbs < 2 ^ 4000 → v.natAbs < 2 ^ 4000 → IntMulOk u v := fun hu hv => mulOk hu hv (by decide)
  have dp : ((p.den : Nat) : Int).natAbs < 2 ^ 4000 := by rw [Int.natAbs_natCast]; exact zp.2
  have dq : ((q.den : Nat) : Int).natAbs < 2 ^ 4000 := by rw [Int.natAbs_natCast]; exact zq.2
  have nz : (p.den : Int) * (q.den : Int) ≠ 0 := by
    have h := Nat.mul_ne_zero p.den_nz q.den_nz
    intro z
    exact h (by exact_mod_cast z)
  have bz : ((p.den : Int) * (q.den : Int)).natAbs < 2 ^ 9000 := by
    rw [Int.natAbs_mul]
    exact Nat.lt_of_lt_of_le (NB.mul_lt (m := 4000) (n := 4000) dp dq) (Nat.pow_le_pow_right (by decide) (by decide))
  refine ev_ret (ev_call (ev_cons (ev_f2 (ev_f2 (ev_f2 rfl rfl ix_t0) (ev_f2 rfl rfl ix_t1) (gMulI (m1 zp.1 dq))) (ev_f2 (ev_f2 rfl rfl ix_t0) (ev_f2 rfl rfl ix_t1) (gMulI (m1 zq.1 dp))) rfl) (ev_cons (ev_f2 (ev_f2 rfl rfl ix_t1) (ev_f2 rfl rfl ix_t1) (gMulI (m1 dp dq))) rfl)) (ev_gF rfl rfl (F_num _ _ nz bz) rfl)) ?_
  rw [NB.minus_eq, outZ_num]; rfl

theorem P_sign (q : Rat) : F_sign [nD q] = okM (.val (.int (if 0 < q.num then 1 else if q.num < 0 then -1 else 0))) := by
  refine ev_fn rfl ?_
  show B_sign [.dat (nD q)] = _
  unfold B_sign
  refine ev_sif (ev_fB (ev_f2 (ev_f2 rfl rfl ix_t0) rfl rfl) rfl) (fun c => ?_) (fun c => ?_)
  · have c' : 0 < q.num := of_decide_eq_true c
    rw [if_pos c']; exact ev_sret rfl rfl
  · have c' : ¬ 0 < q.num := of_decide_eq_false c
    rw [if_neg c']
    refine ev_snext (ev_sif (ev_fB (ev_f2 (ev_f2 rfl rfl ix_t0) rfl rfl) rfl) (fun c => ?_) (fun c => ?_))
    · have c' : q.num < 0 := of_decide_eq_true c
      rw [if_pos c']; exact ev_sret (ev_fU rfl rfl) rfl
    · have c' : ¬ q.num < 0 := of_decide_eq_false c
      rw [if_neg c']; exact ev_snext (ev_ret rfl rfl)
theorem sign_zero (q : Rat) : decide ((if 0 < q.num then (1 : Int) else if q.num < 0 then -1 else 0) = 0) = decide (q = 0) := by
  by_cases h : q = 0
  · subst h; rfl
  · have h' : q.num ≠ 0 := fun z => h (Rat.num_eq_zero.mp z)
    rw [decide_eq_false h]
    refine decide_eq_false fun z => h' ?_
    split at z
    · omega
    · split at z <;> omega

theorem cut_upto (ds : List PyData) (k : Nat) (h : k ≤ ds.length) : cutD ds none (some (k : Int)) = ds.take k := by
  unfold cutD
  rw [HT.sIx_none, HT.sIx_nat, Nat.min_eq_left h]; simp
theorem co_loop (l : List Rat) : fWh (fAnd (fB (f2 (gI gGt) (fVar 1) (fC (.int 0)))) (fB (f2 (gEq false) (fCall (gF 1 F_sign) (fCons (f2 gIx (fVar 0) (f2 (gI D3.gSub) (fVar 1) (fC (.int 1)))) fNil)) (fC (.int 0))))) (fSet 1 (f2 (gI D3.gSub) (fVar 1) (fC (.int 1)))) [.dat (lD l), .dat (.int (l.length : Int))]
    = some (.next [.dat (lD l), .dat (.int ((trim l).length : Int))]) := by
  obtain ⟨δ', e, k, rfl, hk⟩ := whN_inv (c := fAnd (fB (f2 (gI gGt) (fVar 1) (fC (.int 0)))) (fB (f2 (gEq false) (fCall (gF 1 F_sign) (fCons (f2 gIx (fVar 0) (f2 (gI D3.gSub) (fVar 1) (fC (.int 1)))) fNil)) (fC (.int 0))))) (b := fSet 1 (f2 (gI D3.gSub) (fVar 1) (fC (.int 1)))) (δ := [.dat (lD l), .dat (.int (l.length : Int))])
    (fun δ => ∃ k : Nat, δ = [.dat (lD l), .dat (.int (k : Int))] ∧ k ≤ l.length ∧ trim (l.take k) = trim l)
    (fun δ => ∃ k : Nat, δ = [.dat (lD l), .dat (.int (k : Int))] ∧ k = (trim l).length)
    (fun δ => match δ with | [_, .dat (.int k)] => k.toNat | _ => 0)
    (by
      rintro δ ⟨k, rfl, hk, ht⟩
      have c1 : fB (f2 (gI gGt) (fVar 1) (fC (.int 0))) [.dat (lD l), .dat (.int (k : Int))] = okM (decide ((0 : Int) < (k : Int))) := ev_fB (ev_f2 rfl rfl rfl) rfl
      cases k with
      | zero =>
        refine .inl ⟨ev_andF c1, 0, rfl, ?_⟩
        rw [← ht]; rfl
      | succ k =>
        have hlt : k < l.length := by omega
        have c1' : fB (f2 (gI gGt) (fVar 1) (fC (.int 0))) [.dat (lD l), .dat (.int ((k + 1 : Nat) : Int))] = okM true := by rw [c1, decide_eq_true (by omega)]
        have c2 : fB (f2 (gEq false) (fCall (gF 1 F_sign) (fCons (f2 gIx (fVar 0) (f2 (gI D3.gSub) (fVar 1) (fC (.int 1)))) fNil)) (fC (.int 0))) [.dat (lD l), .dat (.int ((k + 1 : Nat) : Int))] = okM (decide (l[k] = 0)) := by
          rw [← sign_zero]
          exact ev_fB (ev_f2 (ev_call (ev_cons (ev_f2 rfl (ev_f2 rfl rfl rfl) (ix_lst (j := k) (d := nD l[k]) (by omega) (get_nD (List.getElem?_eq_getElem hlt)))) rfl) (ev_gF rfl rfl (P_sign _) rfl)) rfl (gEq_int _ _)) rfl
        have tk : l.take (k + 1) = l.take k ++ [l[k]] := by rw [List.take_succ, List.getElem?_eq_getElem hlt]; rfl
        by_cases h0 : l[k] = 0
        · refine .inr ⟨ev_andT c1' (by rw [c2, decide_eq_true h0]), [.dat (lD l), .dat (.int (k : Int))], ?_, ⟨k, rfl, by omega, ?_⟩, ?_⟩
          · refine ev_set (ev_f2 rfl rfl rfl) rfl ?_
            have e : ((k + 1 : Nat) : Int) - 1 = (k : Int) := by omega
            rw [e]; rfl
          · rw [← ht, tk, h0, trim_snoc0]
          · show ((k : Int)).toNat < (((k + 1 : Nat) : Int)).toNat
            omega
        · refine .inl ⟨ev_andT c1' (by rw [c2, decide_eq_false h0]), k + 1, rfl, ?_⟩
          rw [← ht, tk, trim_snoc h0, List.length_append, List.length_take, List.length_singleton]
          omega) ⟨l.length, rfl, Nat.le_refl _, by rw [List.take_length]⟩
  rw [e, hk]
theorem P_curve_of (l : List Rat) (h : (trim l).length ≤ 13) : F_curve_of [lD l] = okM (.val (cD (trim l))) := by
  refine ev_fn rfl ?_
  show B_curve_of [.dat (lD l), .no] = _
  unfold B_curve_of
  have hlen : lenOf (.dat (lD l)) = okM (.dat (.int (l.length : Int))) := by
    show okM (Rz.dat (PyData.int ((l.map nD).length : Int))) = _
    rw [List.length_map]
  refine ev_sset (ev_call rfl (show g1 lenOf [Rz.dat (lD l)] = _ from hlen)) rfl (by walk_at "ss") ?_
  refine ev_seq (co_loop l) ?_
  refine ev_sifF (by rw [ev_fB (ev_f2 rfl rfl rfl) rfl, decide_eq_false (by omega)]) (ev_snext ?_)
  have hs : fSl gSlL (fVar 0) fNoP (fPart (fVar 1)) [.dat (lD l), .dat (.int ((trim l).length : Int))] = okM (.new ((trim l).map nD)) := by
    show okM (Rz.new (cutD (l.map nD) none (some ((trim l).length : Int)))) = _
    rw [cut_upto _ _ (by rw [List.length_map]; exact trim_len l), ← List.map_take, ← trim_take]
  exact ev_ret (ev_call (ev_cons hs rfl) rfl) rfl
/-! texts -/
def tS (n : Int) : Str := Str.ofString (toString n)
def SOk (a : Str) : Prop := PyData.strOk a = true
theorem sok_of (s : String) : SOk (Str.ofString s) := by
  unfold SOk PyData.strOk
  rw [Str.ofString_eq_toList, List.all_toArray, List.all_map, List.all_eq_true]
  intro c _
  have h := c.valid
  simp only [Function.comp, decide_eq_true_eq]
  show c.val.toNat < 1114112
  rcases h with h | ⟨_, h⟩
  · have : c.val.toNat < 55296 := h
    omega
  · exact h
theorem len_app (a b : Str) : (a ++ b).length = a.length + b.length := by
  show (a.cps ++ b.cps).size = _
  rw [Array.size_append]; rfl
theorem app_assoc (a b c : Str) : a ++ b ++ c = a ++ (b ++ c) := by
  show Str.mk ((a.cps ++ b.cps) ++ c.cps) = Str.mk (a.cps ++ (b.cps ++ c.cps))
  rw [Array.append_assoc]
theorem emp_app (a : Str) : Str.empty ++ a = a := by
  cases a
  show Str.mk (#[] ++ _) = _
  rw [Array.empty_append]
theorem okD_str {a : Str} (h : SOk a) : okD (.str a) = true := by
  unfold okD SeqAt.shaped
  have e : PyData.canLay0 (.str a) = true := by simp only [PyData.canLay0]; exact h
  rw [e]
  simp [PyData.depth]
theorem eqv_str (a b : Str) : PyData.eqv (.str a) (.str b) = decide (a = b) := by simp [PyData.eqv, Bool.beq_eq_decide_eq]
theorem gEqS {a b : Str} (ha : SOk a) (hb : SOk b) : gEq false (.dat (.str a)) (.dat (.str b)) = okM (.dat (.bool (decide (a = b)))) := gEqD rfl rfl (okD_str ha) (okD_str hb) (eqv_str a b)
theorem gNeS {a b : Str} (ha : SOk a) (hb : SOk b) : gEq true (.dat (.str a)) (.dat (.str b)) = okM (.dat (.bool (!decide (a = b)))) := gNeD rfl rfl (okD_str ha) (okD_str hb) (by rw [eqv_str, Bool.not_not])
theorem gAddSt {a b : Str} (h : a.length + b.length ≤ 1000000) : gAddS (.dat (.str a)) (.dat (.str b)) = okM (.dat (.str (a ++ b))) := by
  have sl : (sizeLine : Nat) = 16777216 := rfl
  unfold gAddS Rz.d?
  dsimp only
  rw [if_pos (by omega)]
theorem str_of {n : Int} (h : n.natAbs < 2 ^ 1900) : g1 strOf [.dat (.int n)] = okM (.dat (.str (tS n))) := by
  show strOf (.dat (.int n)) = _
  unfold strOf Rz.d?
  dsimp only
  rw [if_pos]
  · rfl
  · by_cases z : n.natAbs = 0
    · rw [z]; decide
    · have := (Nat.log2_lt z (k := 1900)).mpr h
      omega
theorem len_pos_ne {a : Str} (h : 0 < a.length) : a ≠ ("" : Str) := fun z => by rw [z] at h; exact absurd h (by decide)
def joinE (ys : List Str) : Str := Txt.join "" ys
theorem outZ_str (a : Str) : outZ (.val (.str a)) = .dat (.str a) := rfl
/-! figures -/
def dgL (n : Nat) : List Nat := (Nat.toDigits 10 n).map Char.toNat
def ofL (l : List Nat) : Str := ⟨l.toArray⟩
theorem ofL_app (l m : List Nat) : ofL (l ++ m) = ofL l ++ ofL m := by
  show Str.mk _ = Str.mk (l.toArray ++ m.toArray)
  rw [List.append_toArray]
theorem ofL_len (l : List Nat) : (ofL l).length = l.length := by
  show l.toArray.size = _
  rw [List.size_toArray]
theorem tS_nat (n : Nat) : tS (n : Int) = ofL (dgL n) := by
  unfold tS
  rw [Str.ofString_eq_toList]
  show Str.mk _ = Str.mk _
  have : (toString (n : Int)).toList = Nat.toDigits 10 n := by
    show (toString n).toList = _
    rw [Nat.toString_eq_ofList_toDigits, String.toList_ofList]
  rw [this]; rfl
theorem dg_all (n : Nat) : NumText.AllDigits (dgL n) := by
  intro c hc
  unfold dgL at hc
  obtain ⟨d, hd, rfl⟩ := List.mem_map.mp hc
  have h := Nat.isDigit_of_mem_toDigits (by decide) (by decide) hd
  unfold Char.isDigit at h
  rw [Bool.and_eq_true, decide_eq_true_eq, decide_eq_true_eq] at h
  have h1 : '0'.val.toNat ≤ d.val.toNat := h.1
  have h2 : d.val.toNat ≤ '9'.val.toNat := h.2
  exact ⟨h1, h2⟩
theorem dg_ne (n : Nat) : dgL n ≠ [] := by
  unfold dgL
  intro z
  rw [List.map_eq_nil_iff] at z
  exact Nat.toDigits_ne_nil z
theorem dg_val (n : Nat) : NumText.digitsVal (dgL n) = n := by
  have h := Nat.ofDigitChars_ten_toDigits (n := n)
  unfold Nat.ofDigitChars at h
  unfold NumText.digitsVal dgL
  rw [List.foldl_map]
  refine Eq.trans ?_ h
  congr 1
  funext a c
  show a * 10 + (c.toNat - 48) = 10 * a + (c.toNat - 48)
  omega
theorem dg_len (n k : Nat) (hk : 0 < k) : (dgL n).length ≤ k ↔ n < 10 ^ k := by
  unfold dgL
  rw [List.length_map]
  exact Nat.length_toDigits_le_iff (by decide) hk
theorem slash : ("/" : Str) = ofL [47] := by decide +kernel
theorem dash : ("-" : Str) = ofL [45] := by decide +kernel
theorem sub_at {l : List Nat} {c i : Nat} (h : Builtin.Str.subAt (ofL l) (ofL [c]) i = true) : l[i]? = some c := by
  unfold Builtin.Str.subAt at h
  have h1 := congrArg Array.toList (eq_of_beq h)
  rw [Array.toList_extract, List.extract_eq_take_drop] at h1
  have e : (ofL [c]).length = 1 := rfl
  rw [e] at h1
  have e2 : i + 1 - i = 1 := by omega
  rw [e2] at h1
  have h2 : List.take 1 (List.drop i l) = [c] := h1
  have h3 : (List.take 1 (List.drop i l))[0]? = some c := by rw [h2]; rfl
  rw [List.getElem?_take, if_pos (by decide), List.getElem?_drop, Nat.add_zero] at h3
  exact h3
theorem at_sub {l : List Nat} {c i : Nat} (h : l[i]? = some c) : Builtin.Str.subAt (ofL l) (ofL [c]) i = true := by
  unfold Builtin.Str.subAt
  have e : (ofL [c]).length = 1 := rfl
  rw [e, beq_iff_eq]
  apply Array.toList_inj.mp
  rw [Array.toList_extract, List.extract_eq_take_drop]
  have e2 : i + 1 - i = 1 := by omega
  rw [e2]
  show List.take 1 (List.drop i l) = [c]
  have hlt : i < l.length := by
    by_cases z : i < l.length
    · exact z
    · rw [List.getElem?_eq_none (by omega)] at h; cases h
  rw [List.drop_eq_getElem_cons hlt, List.take_succ_cons, List.take_zero]
  rw [List.getElem?_eq_getElem hlt] at h
  cases h; rfl
theorem part_no (l : List Nat) (hl : ∀ c ∈ l, c ≠ 47) : Txt.partition (ofL l) "/" = (ofL l, Str.empty, Str.empty) := by
  rcases PyProof.Rows.partition_whole (ofL l) "/" with ⟨h, _⟩ | ⟨i, h, hat, _⟩
  · exact h
  · rw [slash] at hat
    exact absurd rfl (hl 47 (List.mem_of_getElem? (sub_at hat.2)))
theorem part_yes (l m : List Nat) (hl : ∀ c ∈ l, c ≠ 47) : Txt.partition (ofL (l ++ 47 :: m)) "/" = (ofL l, ("/" : Str), ofL m) := by
  have e1 : ("/" : Str).length = 1 := by decide +kernel
  have hat0 : (l ++ 47 :: m)[l.length]? = some 47 := by rw [List.getElem?_append_right (Nat.le_refl _), Nat.sub_self]; rfl
  rcases PyProof.Rows.partition_whole (ofL (l ++ 47 :: m)) "/" with ⟨_, h⟩ | ⟨i, h, hat, hmin⟩
  · exact absurd ⟨by rw [e1, ofL_len, List.length_append, List.length_cons]; omega, by rw [slash]; exact at_sub hat0⟩ (h l.length)
  · have hi := sub_at (l := l ++ 47 :: m) (c := 47) (i := i) (by rw [← slash]; exact hat.2)
    have i0 : i = l.length := by
      by_cases c : i < l.length
      · rw [List.getElem?_append_left c] at hi
        exact absurd rfl (hl 47 (List.mem_of_getElem? hi))
      · by_cases c2 : l.length < i
        · exact absurd ⟨by rw [e1, ofL_len, List.length_append, List.length_cons]; omega, by rw [slash]; exact at_sub hat0⟩ (hmin l.length c2)
        · omega
    subst i0
    rw [h, e1]
    have a1 : Builtin.Str.strSub (ofL (l ++ 47 :: m)) 0 l.length = ofL l := by
      unfold Builtin.Str.strSub
      show Str.mk _ = Str.mk _
      congr 1
      apply Array.toList_inj.mp
      rw [Array.toList_extract, List.extract_eq_take_drop]
      show List.take (l.length - 0) (List.drop 0 (l ++ 47 :: m)) = l
      rw [List.drop_zero, Nat.sub_zero, List.take_left' rfl]
    have a2 : Builtin.Str.strSub (ofL (l ++ 47 :: m)) (l.length + 1) (ofL (l ++ 47 :: m)).length = ofL m := by
      unfold Builtin.Str.strSub
      show Str.mk _ = Str.mk _
      congr 1
      apply Array.toList_inj.mp
      rw [Array.toList_extract, List.extract_eq_take_drop]
      show List.take ((ofL (l ++ 47 :: m)).length - (l.length + 1)) (List.drop (l.length + 1) (l ++ 47 :: m)) = m
      rw [ofL_len, List.drop_append, List.drop_eq_nil_of_le (by omega), List.nil_append]
      have e3 : l.length + 1 - l.length = 1 := by omega
      rw [e3, List.drop_succ_cons, List.drop_zero, List.length_append, List.length_cons]
      exact List.take_of_length_le (by omega)
    rw [a1, a2]
theorem slice1 (c : Nat) (l : List Nat) : Txt.slice (ofL (c :: l)) (some 1) none = ofL l := by
  rw [PyProof.Rows.slice_from_eq (b := ((ofL (c :: l)).length : Int)) (by decide) (by rw [ofL_len, List.length_cons]; omega) rfl]
  show Str.mk _ = Str.mk _
  congr 2
  show List.take (((ofL (c :: l)).length : Int) - 1).toNat (List.drop 1 (c :: l)) = l
  rw [ofL_len, List.drop_succ_cons, List.drop_zero, List.length_cons]
  exact List.take_of_length_le (by omega)
theorem starts_yes (l : List Nat) : gStarts "-" (.dat (.str (ofL (45 :: l)))) = okM (.dat (.bool true)) := by
  unfold gStarts Rz.d?
  dsimp only
  have e1 : ("-" : Str).length = 1 := by decide +kernel
  rw [e1, decide_eq_true (by rw [ofL_len, List.length_cons]; omega), dash, at_sub (by rfl)]; rfl
theorem starts_no (l : List Nat) (h : l.head? ≠ some 45) : gStarts "-" (.dat (.str (ofL l))) = okM (.dat (.bool false)) := by
  unfold gStarts Rz.d?
  dsimp only
  have e : Builtin.Str.subAt (ofL l) "-" 0 = false := by
    rw [Bool.eq_false_iff]
    intro z
    rw [dash] at z
    have := sub_at z
    rw [← List.head?_eq_getElem?] at this
    exact h this
  rw [e, Bool.and_false]
theorem lc_any {α : Type} (mk g : α → PyData) (fe : List Sl → M Rz) (δ : List Sl) : ∀ (l : List α), (∀ p ∈ l, ∃ z, fe (.dat (mk p) :: δ) = okM z ∧ datOf z = some (g p)) → lcN fTrue fe δ (l.map mk) = some (l.map g)
  | [], _ => rfl
  | p :: r, h => by
    obtain ⟨z, e, hz⟩ := h p (List.mem_cons_self ..)
    have h3 := lc_any mk g fe δ r fun d hd => h d (List.mem_cons_of_mem _ hd)
    rw [List.map_cons]
    unfold lcN
    show (match fe (.dat (mk p) :: δ) with | some (.ok z) => (match datOf z, lcN fTrue fe δ (r.map mk) with | some e, some es => some (e :: es) | _, _ => none) | _ => none) = _
    rw [e]
    show (match datOf z, lcN fTrue fe δ (r.map mk) with | some e, some es => some (e :: es) | _, _ => none) = _
    rw [hz, h3]; rfl
theorem bls_map : ∀ bs : List Bool, blsOf (bs.map PyData.bool) = some bs
  | [] => rfl
  | b :: r => by rw [List.map_cons]; unfold blsOf; rw [bls_map r]
theorem q_map (q : List Bool → Bool) (bs : List Bool) : g1 (qOf q) [.new (bs.map PyData.bool)] = okM (.dat (.bool (q bs))) := by
  show qOf q (.new (bs.map PyData.bool)) = _
  unfold qOf Rz.d?
  dsimp only
  rw [bls_map]
theorem fig_in (c : Nat) (h : 48 ≤ c ∧ c ≤ 57) : gInS false (.dat (.str ⟨#[c]⟩)) (.dat (.str "0123456789")) = okM (.dat (.bool true)) := by
  have key : (!(Builtin.Str.occurrences "0123456789" ⟨#[c]⟩ 0 (("0123456789" : Str)).length 1).isEmpty) = true := by
    have : c = 48 ∨ c = 49 ∨ c = 50 ∨ c = 51 ∨ c = 52 ∨ c = 53 ∨ c = 54 ∨ c = 55 ∨ c = 56 ∨ c = 57 := by omega
    rcases this with rfl | rfl | rfl | rfl | rfl | rfl | rfl | rfl | rfl | rfl <;> decide +kernel
  unfold gInS Rz.d?
  dsimp only
  rw [if_neg (by decide), key]
theorem sok_ofL {l : List Nat} (h : ∀ c ∈ l, c < 1114112) : SOk (ofL l) := by
  unfold SOk PyData.strOk ofL
  rw [List.all_toArray, List.all_eq_true]
  intro c hc
  exact decide_eq_true (h c hc)
/-! a whole number read -/
theorem len_S {a : Str} (h : a.length ≤ 1000) : g1 lenS [.dat (.str a)] = okM (.dat (.int (a.length : Int))) := by
  have sl : (sizeLine : Nat) = 16777216 := rfl
  show lenS (.dat (.str a)) = _
  unfold lenS Rz.d?
  dsimp only
  rw [if_pos (by omega)]
theorem P_whole_in (n : Nat) (h : n < 10 ^ 12) : F_whole_in [.str (tS (n : Int))] = okM (.val (.int (n : Int))) := by
  have sl : (sizeLine : Nat) = 16777216 := rfl
  have hlen := (dg_len n 12 (by decide)).mpr h
  have hne := dg_ne n
  have hall := dg_all n
  rw [tS_nat]
  refine ev_fn rfl ?_
  show B_whole_in [.dat (.str (ofL (dgL n)))] = _
  unfold B_whole_in
  have sok : SOk (ofL (dgL n)) := sok_ofL fun c hc => by have := hall c hc; omega
  have nemp : ofL (dgL n) ≠ ("" : Str) := len_pos_ne (by rw [ofL_len]; exact List.length_pos_iff.mpr hne)
  refine ev_sifF (ev_orF ?_ (ev_orF ?_ (ev_notF ?_))) (ev_snext ?_)
  · refine (ev_fB (ev_f2 rfl rfl (gEqS sok (sok_of ""))) rfl).trans ?_
    rw [decide_eq_false nemp]
  · refine (ev_fB (b := decide (((ofL (dgL n)).length : Int) > 12)) (ev_f2 (ev_call rfl (len_S (by rw [ofL_len]; omega))) rfl rfl) rfl).trans ?_
    rw [decide_eq_false (by rw [ofL_len]; omega)]
  · refine (ev_fB (ev_call (ev_cons (x := .new (((dgL n).map fun _ => true).map PyData.bool)) ?_ rfl) (q_map _ _)) rfl).trans ?_
    · unfold fLC
      have asc : ((ofL (dgL n)).cps.all fun c => decide (c < 128)) = true := by
        unfold ofL
        rw [List.all_toArray, List.all_eq_true]
        intro c hc
        have := hall c hc
        exact decide_eq_true (by omega)
      have hi : fI itemsS (fVar 0) [.dat (.str (ofL (dgL n)))] = okM ((dgL n).map fun c => PyData.str ⟨#[c]⟩) := by
        refine ev_fI rfl ?_
        unfold itemsS Rz.d?
        dsimp only
        rw [if_pos asc]; rfl
      rw [hi, bnd_okM, if_pos (by rw [List.length_map]; omega), lc_any (fun c => PyData.str ⟨#[c]⟩) (fun _ => PyData.bool true) _ _ (dgL n) ?_]
      · rw [List.map_map]; rfl
      · intro c hc
        exact ⟨.dat (.bool true), ev_f2 rfl rfl (fig_in c (hall c hc)), rfl⟩
    · unfold allB
      rw [List.all_map]
      congr 1
      rw [List.all_eq_true]
      intro x _; rfl
  · refine ev_ret (x := .dat (.int (n : Int))) (ev_call rfl ?_) rfl
    show intS (.dat (.str (ofL (dgL n)))) = _
    unfold intS Rz.d?
    dsimp only
    rw [PySem.intText_digits (x := ofL (dgL n)) (by exact hall) (by exact hne) (by rw [ofL_len]; omega)]
    dsimp only
    rw [if_pos (by rw [ofL_len]; omega)]
    show okM (Rz.dat (PyData.int ((NumText.digitsVal (dgL n) : Nat) : Int))) = _
    rw [dg_val]
theorem ld_loop (a b : Int) : ∃ x : Int, Int.gcd x 0 = Int.gcd a b ∧ fWh (fB (f2 (gEq true) (fVar 1) (fC (.int 0)))) (fPar 0 1 (fCons (fVar 1) (fCons (f2 (gI gMod) (fVar 0) (fVar 1)) fNil))) [.dat (.int a), .dat (.int b)] = some (.next [.dat (.int x), .dat (.int 0)]) := by
  obtain ⟨δ', e, x, rfl, hx⟩ := whN_inv (c := fB (f2 (gEq true) (fVar 1) (fC (.int 0)))) (b := fPar 0 1 (fCons (fVar 1) (fCons (f2 (gI gMod) (fVar 0) (fVar 1)) fNil))) (δ := [.dat (.int a), .dat (.int b)])
    (fun δ => ∃ (x y : Int), δ = [.dat (.int x), .dat (.int y)] ∧ Int.gcd x y = Int.gcd a b)
    (fun δ => ∃ (x : Int), δ = [.dat (.int x), .dat (.int 0)] ∧ Int.gcd x 0 = Int.gcd a b)
    (fun δ => match δ with | [_, .dat (.int y)] => y.natAbs | _ => 0)
    (by
      rintro δ ⟨x, y, rfl, hg⟩
      by_cases hy : y = 0
      · subst hy
        exact .inl ⟨ev_fB (ev_f2 rfl rfl (gNe_int _ _)) rfl, x, rfl, hg⟩
      · refine .inr ⟨?_, _, ev_par (ev_cons rfl (ev_cons (ev_f2 rfl rfl (gModI hy)) rfl)) rfl rfl (by walk_at "ss"), ⟨y, x.fmod y, rfl, ?_⟩, NB.fmod_lt x y hy⟩
        · have := ev_fB (δ := [.dat (.int x), .dat (.int y)]) (f := f2 (gEq true) (fVar 1) (fC (.int 0))) (ev_f2 rfl rfl (gNe_int y 0)) rfl
          rw [this, decide_eq_false hy]; rfl
        · rw [NB.gcd_fmod]; exact hg) ⟨a, b, rfl, rfl⟩
  exact ⟨x, hx, e⟩
theorem L_div (a b : Int) : F__law_divisor [.int a, .int b] = okM (.val (.int (Int.gcd a b : Int))) := by
  refine ev_fn rfl ?_
  show B__law_divisor [.dat (.int a), .dat (.int b)] = _
  unfold B__law_divisor
  obtain ⟨x, hx, e⟩ := ld_loop a b
  refine ev_seq e (ev_ret (ev_call rfl rfl) ?_)
  have e2 : (if x < 0 then -x else x) = (Int.gcd a b : Int) := by
    rw [← hx, Int.gcd_zero_right]
    split <;> omega
  rw [e2]; rfl

theorem len_cD (l : List Rat) : g1 lenOf [Rz.dat (cD l)] = okM (.dat (.int (l.length : Int))) := by
  show okM (Rz.dat (PyData.int ((l.map nD).length : Int))) = _
  rw [List.length_map]
theorem ixN_nat {n k : Nat} {i : Int} (hi : i = (k : Int)) (h : k < n) : L2.ixN n i = some k := by
  subst hi
  unfold L2.ixN
  rw [if_pos (by omega), if_pos (by omega), Int.toNat_natCast]

theorem rep_nD (k : Nat) (hk : k ≤ 1000) : gRep (.new [nD 0]) (.dat (.int (k : Int))) = okM (.new ((List.replicate k (0 : Rat)).map nD)) := by
  have sl : (sizeLine : Nat) = 16777216 := rfl
  unfold gRep ownOf Rz.d?
  dsimp only
  rw [if_pos (by refine ⟨by omega, by omega, ?_⟩; simp; omega)]
  have : (List.replicate (k : Int).toNat [nD 0]).flatten = (List.replicate k (0 : Rat)).map nD := by
    rw [Int.toNat_natCast, List.map_replicate]
    clear hk
    induction k with
    | zero => rfl
    | succ k ih => rw [List.replicate_succ, List.flatten_cons, ih, List.replicate_succ]; rfl
  rw [this]
/-! words with blanks between -/
def glue : List (List Nat) → List Nat
  | [] => []
  | [w] => w
  | w :: v :: r => w ++ 32 :: glue (v :: r)
theorem glue_app : ∀ (u v : List (List Nat)), u ≠ [] → v ≠ [] → glue (u ++ v) = glue u ++ 32 :: glue v
  | [], _, h, _ => absurd rfl h
  | [w], v, _, h => by
    cases v with
    | nil => exact absurd rfl h
    | cons a r => rfl
  | w :: x :: r, v, _, h => by
    have ih := glue_app (x :: r) v (by simp) h
    show w ++ 32 :: glue (x :: r ++ v) = (w ++ 32 :: glue (x :: r)) ++ 32 :: glue v
    rw [ih]; simp
theorem cut_eq {a b : Nat → Prop} : ∀ (w v : List Nat) (x y : List Nat), 32 ∉ w → 32 ∉ v → w ++ 32 :: x = v ++ 32 :: y → w = v ∧ x = y
  | [], [], x, y, _, _, h => by simpa using h
  | [], c :: v, x, y, _, hv, h => by
    simp only [List.nil_append, List.cons_append, List.cons.injEq] at h
    exact absurd (h.1 ▸ List.mem_cons_self ..) hv
  | c :: w, [], x, y, hw, _, h => by
    simp only [List.nil_append, List.cons_append, List.cons.injEq] at h
    exact absurd (h.1 ▸ List.mem_cons_self ..) hw
  | c :: w, d :: v, x, y, hw, hv, h => by
    simp only [List.cons_append, List.cons.injEq] at h
    obtain ⟨e1, e2⟩ := cut_eq (a := a) (b := b) w v x y (fun z => hw (List.mem_cons_of_mem _ z)) (fun z => hv (List.mem_cons_of_mem _ z)) h.2
    exact ⟨by rw [h.1, e1], e2⟩
theorem glue_inj : ∀ (u v : List (List Nat)), u ≠ [] → v ≠ [] → (∀ w ∈ u, 32 ∉ w) → (∀ w ∈ v, 32 ∉ w) → glue u = glue v → u = v
  | [], _, h, _, _, _, _ => absurd rfl h
  | _ :: _, [], _, h, _, _, _ => absurd rfl h
  | [w], [x], _, _, _, _, h => by rw [show w = x from h]
  | [w], x :: y :: r, _, _, hu, _, h => by
    have h' : w = x ++ 32 :: glue (y :: r) := h
    exact absurd (by rw [h']; simp) (hu w (List.mem_cons_self ..))
  | w :: y :: r, [x], _, _, _, hv, h => by
    have h' : w ++ 32 :: glue (y :: r) = x := h
    exact absurd (by rw [← h']; simp) (hv x (List.mem_cons_self ..))
  | w :: w2 :: r, x :: x2 :: s, _, _, hu, hv, h => by
    obtain ⟨e1, e2⟩ := cut_eq (a := fun _ => True) (b := fun _ => True) w x _ _ (hu w (List.mem_cons_self ..)) (hv x (List.mem_cons_self ..)) (show w ++ 32 :: glue (w2 :: r) = x ++ 32 :: glue (x2 :: s) from h)
    rw [e1, glue_inj (w2 :: r) (x2 :: s) (by simp) (by simp) (fun w hw => hu w (List.mem_cons_of_mem _ hw)) (fun w hw => hv w (List.mem_cons_of_mem _ hw)) e2]
theorem blank : (" " : Str) = ofL [32] := by decide +kernel
def cpl (s : Str) : List Nat := s.cps.toList
theorem ofL_cpl (s : Str) : ofL (cpl s) = s := by
  cases s
  show Str.mk _ = Str.mk _
  unfold cpl
  simp
theorem cpl_ofL (l : List Nat) : cpl (ofL l) = l := by unfold cpl ofL; simp
theorem join_glue : ∀ ps : List Str, Str.join (" " : Str) ps = ofL (glue (ps.map cpl))
  | [] => rfl
  | [p] => (ofL_cpl p).symm
  | p :: q :: r => by
    show p ++ (" " : Str) ++ Str.join (" " : Str) (q :: r) = _
    rw [join_glue (q :: r), blank]
    conv => lhs; rw [← ofL_cpl p]
    rw [← ofL_app, ← ofL_app]
    congr 1
    simp [glue]
theorem split_glue (ws : List (List Nat)) (h0 : ws ≠ []) (h : ∀ w ∈ ws, 32 ∉ w) : Txt.split (ofL (glue ws)) " " = ws.map ofL := by
  have h1 := PySem.StrLaws.join_split (ofL (glue ws)) " "
  have h2 : ∀ p ∈ Txt.split (ofL (glue ws)) " ", 32 ∉ cpl p := by
    rw [blank]; exact PySem.StrLaws.split_free (ofL (glue ws)) 32
  have h3 := PyProof.Rows.split_pos (ofL (glue ws)) " "
  obtain ⟨ps, hps⟩ : ∃ ps, ps = Txt.split (ofL (glue ws)) " " := ⟨_, rfl⟩
  rw [← hps] at h1 h2 h3 ⊢
  rw [join_glue] at h1
  have h4 : glue (ps.map cpl) = glue ws := by
    have := congrArg cpl h1
    rwa [cpl_ofL, cpl_ofL] at this
  have h5 := glue_inj (ps.map cpl) ws (fun z => by rw [List.map_eq_nil_iff] at z; rw [z] at h3; simp at h3) h0 (fun w hw => by obtain ⟨p, hp, rfl⟩ := List.mem_map.mp hw; exact h2 p hp) h h4
  rw [← h5, List.map_map]
  have : ∀ p : Str, (ofL ∘ cpl) p = p := ofL_cpl
  rw [show (ofL ∘ cpl) = id from funext this, List.map_id]
/-! numbers written -/
def sgL (t : Int) : List Nat := if t < 0 then [45] else []
def rsL (n b : Nat) : List Nat := dgL n ++ (if b = 1 then [] else 47 :: dgL b)
theorem all_rs (n b : Nat) : ∀ c ∈ rsL n b, 47 ≤ c ∧ c ≤ 57 := by
  intro c hc
  unfold rsL at hc
  rcases List.mem_append.mp hc with hc | hc
  · have := dg_all n c hc; omega
  · split at hc
    · cases hc
    · rcases List.mem_cons.mp hc with rfl | hc
      · omega
      · have := dg_all b c hc; omega
theorem rs_ne (n b : Nat) : rsL n b ≠ [] := fun z => by
  unfold rsL at z
  exact dg_ne n (List.append_eq_nil_iff.mp z).1
def pwL (k : Nat) : List Nat := if k = 1 then [120] else 120 :: 94 :: dgL k
theorem all_pw (k : Nat) : ∀ c ∈ pwL k, 48 ≤ c ∧ c ≤ 120 := by
  intro c hc
  unfold pwL at hc
  split at hc
  · rw [List.mem_singleton] at hc; omega
  · rcases List.mem_cons.mp hc with rfl | hc
    · omega
    · rcases List.mem_cons.mp hc with rfl | hc
      · omega
      · have := dg_all k c hc; omega
theorem pw_head (k : Nat) : ∃ r, pwL k = 120 :: r := by unfold pwL; split <;> exact ⟨_, rfl⟩
/-- a term: below nought, its top and bottom, its place -/
abbrev Tm := Bool × Nat × Nat × Nat
def tmW (t : Tm) : List (List Nat) := if t.2.2.2 = 0 then [rsL t.2.1 t.2.2.1] else if t.2.1 = 1 ∧ t.2.2.1 = 1 then [pwL t.2.2.2] else [rsL t.2.1 t.2.2.1, pwL t.2.2.2]
theorem tmW_ne (t : Tm) : tmW t ≠ [] := by
  unfold tmW
  split
  · simp
  · split <;> simp
theorem tmW_all (t : Tm) : ∀ w ∈ tmW t, w ≠ [] ∧ ∀ c ∈ w, 47 ≤ c ∧ c ≤ 120 := by
  have h1 : rsL t.2.1 t.2.2.1 ≠ [] ∧ ∀ c ∈ rsL t.2.1 t.2.2.1, 47 ≤ c ∧ c ≤ 120 := ⟨rs_ne _ _, fun c hc => by have := all_rs _ _ c hc; omega⟩
  have h2 : pwL t.2.2.2 ≠ [] ∧ ∀ c ∈ pwL t.2.2.2, 47 ≤ c ∧ c ≤ 120 := ⟨(fun z => by obtain ⟨r, e⟩ := pw_head t.2.2.2; rw [e] at z; cases z), (fun c hc => by have := all_pw _ c hc; omega)⟩
  intro w hw
  unfold tmW at hw
  split at hw
  · rw [List.mem_singleton] at hw; subst hw; exact h1
  · split at hw
    · rw [List.mem_singleton] at hw; subst hw; exact h2
    · rcases List.mem_cons.mp hw with rfl | hw
      · exact h1
      · rw [List.mem_singleton] at hw; subst hw; exact h2
def tmL (t : Tm) : List Nat := glue (tmW t)
def sgC (t : Tm) : Nat := if t.1 = true then 45 else 43
def sgH (t : Tm) : List Nat := if t.1 = true then [45] else []
def txA : List Tm → List Nat
  | [] => []
  | t :: r => sgH t ++ tmL t ++ r.flatMap fun t => [32, sgC t, 32] ++ tmL t
theorem txA_snoc (A : List Tm) (t : Tm) : txA (A ++ [t]) = if A = [] then sgH t ++ tmL t else txA A ++ ([32, sgC t, 32] ++ tmL t) := by
  cases A with
  | nil => simp [txA]
  | cons a r => simp [txA, List.flatMap_append]
def allW : List Tm → List (List Nat)
  | [] => []
  | t :: r => tmW t ++ r.flatMap fun t => [sgC t] :: tmW t
theorem allW_snoc (A : List Tm) (t : Tm) (h : A ≠ []) : allW (A ++ [t]) = allW A ++ ([sgC t] :: tmW t) := by
  cases A with
  | nil => exact absurd rfl h
  | cons a r => simp [allW, List.flatMap_append]
theorem allW_ne (A : List Tm) (h : A ≠ []) : allW A ≠ [] := by
  cases A with
  | nil => exact absurd rfl h
  | cons a r => unfold allW; intro z; exact tmW_ne a (List.append_eq_nil_iff.mp z).1
theorem txA_glue (t0 : Tm) (r : List Tm) : txA (t0 :: r) = sgH t0 ++ glue (allW (t0 :: r)) := by
  have : ∀ r : List Tm, txA (t0 :: r) = sgH t0 ++ glue (allW (t0 :: r)) := fun r => by
    have main : ∀ m (r : List Tm), r.length = m → txA (t0 :: r) = sgH t0 ++ glue (allW (t0 :: r)) := by
      intro m
      induction m with
      | zero => intro r hr; rw [List.length_eq_zero_iff.mp hr]; simp [txA, allW, tmL]
      | succ m ih =>
        intro r hr
        have hne : r ≠ [] := fun z => by rw [z] at hr; simp at hr
        obtain ⟨s, a, rfl⟩ : ∃ s a, r = s ++ [a] := ⟨r.dropLast, r.getLast hne, (List.dropLast_concat_getLast hne).symm⟩
        have e1 := txA_snoc (t0 :: s) a
        rw [if_neg (by simp), ih s (by simp at hr; exact hr)] at e1
        have e2 := allW_snoc (t0 :: s) a (by simp)
        rw [List.cons_append] at e1 e2
        rw [e1, e2, glue_app _ _ (allW_ne _ (by simp)) (by simp)]
        have e3 : glue ([sgC a] :: tmW a) = [sgC a] ++ 32 :: tmL a := glue_app [[sgC a]] (tmW a) (by simp) (tmW_ne a)
        rw [e3]; simp
    exact main r.length r rfl
  exact this r
theorem allW_all (A : List Tm) : ∀ w ∈ allW A, w ≠ [] ∧ ∀ c ∈ w, 43 ≤ c ∧ c ≤ 120 := by
  have h1 : ∀ t : Tm, ∀ w ∈ tmW t, w ≠ [] ∧ ∀ c ∈ w, 43 ≤ c ∧ c ≤ 120 := fun t w hw => ⟨(tmW_all t w hw).1, fun c hc => by have := (tmW_all t w hw).2 c hc; omega⟩
  intro w hw
  cases A with
  | nil => cases hw
  | cons a r =>
    rcases List.mem_append.mp hw with hw | hw
    · exact h1 a w hw
    · obtain ⟨t, _, hw⟩ := List.mem_flatMap.mp hw
      rcases List.mem_cons.mp hw with rfl | hw
      · refine ⟨by simp, fun c hc => ?_⟩
        rw [List.mem_singleton] at hc
        subst hc
        unfold sgC; split <;> omega
      · exact h1 t w hw
theorem all_glue : ∀ (W : List (List Nat)), (∀ w ∈ W, ∀ c ∈ w, c ≤ 120) → ∀ c ∈ glue W, c ≤ 120
  | [], _, c, hc => by cases hc
  | [w], h, c, hc => h w (List.mem_cons_self ..) c hc
  | w :: v :: r, h, c, hc => by
    rcases List.mem_append.mp (show c ∈ w ++ 32 :: glue (v :: r) from hc) with hc | hc
    · exact h w (List.mem_cons_self ..) c hc
    · rcases List.mem_cons.mp hc with rfl | hc
      · omega
      · exact all_glue (v :: r) (fun w hw => h w (List.mem_cons_of_mem _ hw)) c hc
theorem glue_head {w : List Nat} {r : List (List Nat)} (h : w ≠ []) : (glue (w :: r)).head? = w.head? := by
  cases w with
  | nil => exact absurd rfl h
  | cons c w => cases r <;> rfl
theorem glue_ne {W : List (List Nat)} (h : W ≠ []) (h2 : ∀ w ∈ W, w ≠ []) : glue W ≠ [] := by
  cases W with
  | nil => exact absurd rfl h
  | cons w r =>
    have := h2 w (List.mem_cons_self ..)
    intro z
    have e := glue_head (r := r) this
    rw [z] at e
    cases w with
    | nil => exact this rfl
    | cons c w => cases e
/-! terms of a curve -/
def tmQ (q : Rat) (k : Nat) : Tm := (decide (q < 0), q.num.natAbs, q.den, k)
def tsF : Nat → List Rat → List Tm
  | _, [] => []
  | k, q :: r => if q = 0 then tsF (k + 1) r else tmQ q k :: tsF (k + 1) r
theorem tsF_snoc : ∀ (k : Nat) (l : List Rat) (q : Rat), tsF k (l ++ [q]) = tsF k l ++ (if q = 0 then [] else [tmQ q (k + l.length)])
  | k, [], q => by simp [tsF]
  | k, p :: l, q => by
    have ih := tsF_snoc (k + 1) l q
    have e : k + 1 + l.length = k + (l.length + 1) := by omega
    rw [e] at ih
    simp only [List.cons_append, tsF, List.length_cons]
    split
    · rw [ih]
    · rw [ih]; rfl
def txF (l : List Rat) : List Nat := if tsF 0 l = [] then [48] else txA (tsF 0 l)
def tsR (l : List Rat) : List Tm := if tsF 0 l = [] then [(false, 0, 1, 0)] else tsF 0 l
theorem tsR_ne (l : List Rat) : tsR l ≠ [] := by
  unfold tsR; split
  · simp
  · assumption
theorem dg0 : dgL 0 = [48] := by decide +kernel
theorem txF_R (l : List Rat) : txF l = txA (tsR l) := by
  unfold txF tsR
  split
  · show [48] = sgH (false, 0, 1, 0) ++ tmL (false, 0, 1, 0) ++ []
    unfold sgH tmL tmW rsL
    simp [glue, dg0]
  · rfl
def Bd (q : Rat) : Prop := q.num.natAbs < 10 ^ 12 ∧ q.den < 10 ^ 12
def Tk (t : Tm) : Prop := t.2.1 < 10 ^ 12 ∧ t.2.2.1 < 10 ^ 12 ∧ 1 ≤ t.2.2.1 ∧ t.2.2.2 ≤ 12
theorem tsF_ok : ∀ (k : Nat) (l : List Rat), (∀ q ∈ l, Bd q) → k + l.length ≤ 13 → ∀ t ∈ tsF k l, Tk t
  | _, [], _, _, t, h => by cases h
  | k, q :: r, hb, hl, t, h => by
    rw [List.length_cons] at hl
    have hr := tsF_ok (k + 1) r (fun q hq => hb q (List.mem_cons_of_mem _ hq)) (by omega) t
    unfold tsF at h
    split at h
    · exact hr h
    · rcases List.mem_cons.mp h with rfl | h
      · have := hb q (List.mem_cons_self ..)
        exact ⟨this.1, this.2, q.den_pos, by unfold tmQ; dsimp only; omega⟩
      · exact hr h
theorem tsF_len : ∀ (k : Nat) (l : List Rat), (tsF k l).length ≤ l.length
  | _, [] => Nat.le_refl _
  | k, q :: r => by
    have := tsF_len (k + 1) r
    unfold tsF; split <;> simp <;> omega
theorem rs_len {n b : Nat} (hn : n < 10 ^ 12) (hb : b < 10 ^ 12) : (rsL n b).length ≤ 25 := by
  have h1 := (dg_len n 12 (by decide)).mpr hn
  have h2 := (dg_len b 12 (by decide)).mpr hb
  unfold rsL
  rw [List.length_append]
  split
  · simp; omega
  · rw [List.length_cons]; omega
theorem pw_len {k : Nat} (h : k ≤ 12) : (pwL k).length ≤ 4 := by
  have h1 := (dg_len k 2 (by decide)).mpr (by omega)
  unfold pwL
  split
  · simp
  · simp; omega
theorem tm_len {t : Tm} (h : Tk t) : (tmL t).length ≤ 30 := by
  have h1 := rs_len h.1 h.2.1
  have h2 := pw_len h.2.2.2
  unfold tmL tmW
  split
  · show (rsL _ _).length ≤ 30; omega
  · split
    · show (pwL _).length ≤ 30; omega
    · show (rsL _ _ ++ 32 :: pwL _).length ≤ 30
      rw [List.length_append, List.length_cons]; omega
theorem tx_len : ∀ (A : List Tm), (∀ t ∈ A, Tk t) → (txA A).length ≤ A.length * 40
  | A, h => by
    have main : ∀ m (A : List Tm), A.length = m → (∀ t ∈ A, Tk t) → (txA A).length ≤ m * 40 := by
      intro m
      induction m with
      | zero => intro A hA _; rw [List.length_eq_zero_iff.mp hA]; simp [txA]
      | succ m ih =>
        intro A hA hk
        have hne : A ≠ [] := fun z => by rw [z] at hA; simp at hA
        obtain ⟨s, a, rfl⟩ : ∃ s a, A = s ++ [a] := ⟨A.dropLast, A.getLast hne, (List.dropLast_concat_getLast hne).symm⟩
        have h1 := ih s (by simp at hA; exact hA) fun t ht => hk t (List.mem_append_left _ ht)
        have h2 := tm_len (hk a (by simp))
        have h3 : (sgH a).length ≤ 1 := by unfold sgH; split <;> simp
        rw [txA_snoc]
        split
        · rw [List.length_append]; omega
        · rw [List.length_append, List.length_append]
          simp only [List.length_cons, List.length_nil]
          omega
    exact main A.length A rfl h
theorem txA_all (A : List Tm) : ∀ c ∈ txA A, c ≤ 120 := by
  cases A with
  | nil => intro c hc; cases hc
  | cons t r =>
    rw [txA_glue]
    intro c hc
    rcases List.mem_append.mp hc with hc | hc
    · unfold sgH at hc
      split at hc
      · rw [List.mem_singleton] at hc; omega
      · cases hc
    · exact all_glue _ (fun w hw c hc => ((allW_all _ w hw).2 c hc).2) c hc
theorem txA_ne (A : List Tm) (h : A ≠ []) : txA A ≠ [] := by
  cases A with
  | nil => exact absurd rfl h
  | cons t r =>
    rw [txA_glue]
    intro z
    exact glue_ne (allW_ne _ (by simp)) (fun w hw => (allW_all _ w hw).1) (List.append_eq_nil_iff.mp z).2
theorem sok_txA (A : List Tm) : SOk (ofL (txA A)) := sok_ofL fun c hc => by have := txA_all A c hc; omega
theorem sok_txF (l : List Rat) : SOk (ofL (txF l)) := by rw [txF_R]; exact sok_txA _

theorem ev_fnN {n m : Nat} {f : List Sl → Option Fl} {ds : List PyData} {δ' : List Sl} (hl : ds.length = n) (h : f (ds.map Sl.dat ++ List.replicate m Sl.no) = some (.next δ')) : fnD n m f ds = okM (.val .none) := by unfold fnD; rw [if_pos hl, h]; rfl
theorem ev_drop {δ : List Sl} {f : List Sl → M Rz} {x : Rz} (h : f δ = okM x) : fDrop f δ = some (.next δ) := by unfold fDrop; rw [h]; rfl
theorem big12 {n : Nat} (h : n < 10 ^ 12) : ((n : Int)).natAbs < 2 ^ 1900 := by
  rw [Int.natAbs_natCast]
  exact Nat.lt_trans h (Nat.lt_of_lt_of_le (show (10 : Nat) ^ 12 < 2 ^ 40 by decide) (Nat.pow_le_pow_right (by decide) (by decide)))
theorem tS_rs {n b : Nat} (hb : b ≠ 1) : tS (n : Int) ++ "/" ++ tS (b : Int) = ofL (rsL n b) := by
  rw [tS_nat, tS_nat, slash, ← ofL_app, ← ofL_app]
  unfold rsL
  rw [if_neg hb]
  simp
theorem tS_r1 (n : Nat) : tS (n : Int) = ofL (rsL n 1) := by
  rw [tS_nat]; unfold rsL; rw [if_pos rfl, List.append_nil]
theorem dl {n : Nat} (h : n < 10 ^ 12) : (tS (n : Int)).length ≤ 12 := by
  rw [tS_nat, ofL_len]; exact (dg_len n 12 (by decide)).mpr h
theorem sl1 : ("/" : Str).length = 1 := by decide +kernel
theorem P_show_number {n b : Nat} (hn : n < 10 ^ 12) (hb : b < 10 ^ 12) : F_show_number [.tuple [.int (n : Int), .int (b : Int)]] = okM (.val (.str (ofL (rsL n b)))) := by
  refine ev_fn rfl ?_
  show B_show_number [.dat (.tuple [.int (n : Int), .int (b : Int)])] = _
  unfold B_show_number
  have e1 := ev_call (δ := [.dat (.tuple [.int (n : Int), .int (b : Int)])]) (fa := fCons (f2 gIx (fVar 0) (fC (.int 0))) fNil) (ev_cons (ev_f2 rfl rfl ix_t0) rfl) (str_of (big12 hn))
  have hif : fB (f2 (gEq false) (f2 gIx (fVar 0) (fC (.int 1))) (fC (.int 1))) [.dat (.tuple [.int (n : Int), .int (b : Int)])] = okM (decide ((b : Int) = 1)) := ev_fB (ev_f2 (ev_f2 rfl rfl ix_t1) rfl (gEq_int _ _)) rfl
  have l4 := dl hn
  have l5 := dl hb
  have l6 := sl1
  by_cases c : b = 1
  · subst c
    refine ev_sifT (by rw [hif]; rfl) (ev_sret e1 ?_)
    rw [tS_r1]; rfl
  · refine ev_sifF (by rw [hif, decide_eq_false (by omega)]) (ev_snext ?_)
    refine ev_ret (ev_f2 (ev_f2 e1 rfl (gAddSt (by omega))) (ev_call (ev_cons (ev_f2 rfl rfl ix_t1) rfl) (str_of (big12 hb))) (gAddSt (by rw [len_app]; omega))) ?_
    rw [tS_rs c]; rfl
theorem xs1 : ("x" : Str) = ofL [120] := by decide +kernel
theorem xs2 : ("x^" : Str) = ofL [120, 94] := by decide +kernel
theorem pw_one : ofL (pwL 1) = ("x" : Str) := by rw [xs1]; rfl
theorem pw_more {k : Nat} (h : k ≠ 1) : ("x^" : Str) ++ tS (k : Int) = ofL (pwL k) := by
  rw [xs2, tS_nat, ← ofL_app]; unfold pwL; rw [if_neg h]; rfl
theorem P_show_power {k : Nat} (h : k ≤ 12) : F_show_power [.int (k : Int)] = okM (.val (.str (ofL (pwL k)))) := by
  refine ev_fn rfl ?_
  show B_show_power [.dat (.int (k : Int))] = _
  unfold B_show_power
  have hif : fB (f2 (gEq false) (fVar 0) (fC (.int 1))) [.dat (.int (k : Int))] = okM (decide ((k : Int) = 1)) := ev_fB (ev_f2 rfl rfl (gEq_int _ _)) rfl
  by_cases c : k = 1
  · subst c
    refine ev_sifT (by rw [hif]; rfl) (ev_sret rfl ?_)
    rw [pw_one]; rfl
  · refine ev_sifF (by rw [hif, decide_eq_false (by omega)]) (ev_snext ?_)
    have l1 := dl (n := k) (by omega)
    have l2 : ("x^" : Str).length = 2 := by decide +kernel
    refine ev_ret (ev_f2 rfl (ev_call rfl (str_of (big12 (by omega)))) (gAddSt (by omega))) ?_
    rw [pw_more c]; rfl
theorem eqv_one (t b : Int) : PyData.eqv (.tuple [.int t, .int b]) (.tuple [.int 1, .int 1]) = decide (t = 1 ∧ b = 1) := by
  simp only [PyData.eqv, PyData.eqvAll, Bool.and_true]
  by_cases h1 : t = 1 <;> by_cases h2 : b = 1 <;> simp [h1, h2]
theorem okD_pair (t b : Int) : okD (.tuple [.int t, .int b]) = true := by
  unfold okD SeqAt.shaped
  simp [PyData.canLay0, PyData.canLayAll0, PyData.depth, PyData.depthAll]
theorem tm_two {t : Tm} (h0 : t.2.2.2 ≠ 0) (h1 : ¬ (t.2.1 = 1 ∧ t.2.2.1 = 1)) : ofL (rsL t.2.1 t.2.2.1) ++ " " ++ ofL (pwL t.2.2.2) = ofL (tmL t) := by
  rw [blank, ← ofL_app, ← ofL_app]
  unfold tmL tmW
  rw [if_neg h0, if_neg h1]
  simp [glue]
theorem P_show_term {t : Tm} (h : Tk t) : F_show_term [.tuple [.int (t.2.1 : Int), .int (t.2.2.1 : Int)], .int (t.2.2.2 : Int)] = okM (.val (.str (ofL (tmL t)))) := by
  refine ev_fn rfl ?_
  show B_show_term [.dat (.tuple [.int (t.2.1 : Int), .int (t.2.2.1 : Int)]), .dat (.int (t.2.2.2 : Int))] = _
  unfold B_show_term
  have e1 := P_show_number h.1 h.2.1
  have e2 := P_show_power h.2.2.2
  have hif : fB (f2 (gEq false) (fVar 1) (fC (.int 0))) [.dat (.tuple [.int (t.2.1 : Int), .int (t.2.2.1 : Int)]), .dat (.int (t.2.2.2 : Int))] = okM (decide ((t.2.2.2 : Int) = 0)) := ev_fB (ev_f2 rfl rfl (gEq_int _ _)) rfl
  have hif2 : fB (f2 (gEq false) (fVar 0) (fC (.tuple [.int 1, .int 1]))) [.dat (.tuple [.int (t.2.1 : Int), .int (t.2.2.1 : Int)]), .dat (.int (t.2.2.2 : Int))] = okM (decide ((t.2.1 : Int) = 1 ∧ (t.2.2.1 : Int) = 1)) := ev_fB (ev_f2 rfl rfl (gEqD rfl rfl (okD_pair _ _) (okD_pair _ _) (eqv_one _ _))) rfl
  by_cases c : t.2.2.2 = 0
  · refine ev_sifT (by rw [hif, decide_eq_true (by omega)]) (ev_sret (ev_call rfl (ev_gF rfl rfl e1 (outZ_str _))) ?_)
    have : tmL t = rsL t.2.1 t.2.2.1 := by unfold tmL tmW; rw [if_pos c]; rfl
    rw [this]; rfl
  · refine ev_sifF (by rw [hif, decide_eq_false (by omega)]) (ev_snext ?_)
    by_cases c2 : t.2.1 = 1 ∧ t.2.2.1 = 1
    · refine ev_sifT (by rw [hif2, decide_eq_true (by omega)]) (ev_sret (ev_call rfl (ev_gF rfl rfl e2 (outZ_str _))) ?_)
      have : tmL t = pwL t.2.2.2 := by unfold tmL tmW; rw [if_neg c, if_pos c2]; rfl
      rw [this]; rfl
    · refine ev_sifF (by rw [hif2, decide_eq_false (by omega)]) (ev_snext ?_)
      have l1 := rs_len h.1 h.2.1
      have l2 := pw_len h.2.2.2
      have l3 : (" " : Str).length = 1 := by decide +kernel
      refine ev_ret (ev_f2 (ev_f2 (ev_call rfl (ev_gF rfl rfl e1 (outZ_str _))) rfl (gAddSt (by rw [ofL_len]; omega))) (ev_call rfl (ev_gF rfl rfl e2 (outZ_str _))) (gAddSt (by rw [len_app, ofL_len, ofL_len]; omega))) ?_
      rw [tm_two c c2]; rfl
theorem abs_of (n : Int) : g1 absOf [.dat (.int n)] = okM (.dat (.int (n.natAbs : Int))) := by
  show okM (Rz.dat (PyData.int (if n < 0 then -n else n))) = _
  congr 3; split <;> omega
theorem L_term {n : Int} {b k : Nat} (t : Tm) (h : Tk t) (hn : n.natAbs = t.2.1) (hb : b = t.2.2.1) (hk : k = t.2.2.2) : F__law_term [.tuple [.int n, .int (b : Int)], .int (k : Int)] = okM (.val (.str (ofL (tmL t)))) := by
  obtain ⟨h1, h2, h3, h4⟩ := h
  subst hb hk
  refine ev_fn rfl ?_
  show B__law_term [.dat (.tuple [.int n, .int (t.2.2.1 : Int)]), .dat (.int (t.2.2.2 : Int)), .no, .no] = _
  unfold B__law_term
  have l4 := dl h1
  have l5 := dl h2
  have l6 := sl1
  refine ev_sset (x := .dat (.str (tS (t.2.1 : Int)))) (ev_call (ev_cons (ev_call (ev_cons (ev_f2 rfl rfl ix_t0) rfl) (by rw [abs_of, hn])) rfl) (str_of (big12 h1))) rfl (by walk_at "ss") ?_
  have rest : (fSeq (fIfS (fB (f2 (gEq false) (fVar 1) (fC (.int 0)))) (fRet (fVar 2)) fNext)
    (fSeq (fSet 3 (f2 gIx (fCall D3.gLst (fCons (fC (.str "x")) (fCons (f2 gAddS (fC (.str "x^")) (fCall (g1 strOf) (fCons (fVar 1) fNil))) fNil))) (fCall (g1 intOf) (fCons (f2 (gI gGt) (fVar 1) (fC (.int 1))) fNil))))
    (fSeq (fIfS (fB (f2 (gEq false) (fVar 2) (fC (.str "1")))) (fRet (fVar 3)) fNext)
    (fRet (f2 gAddS (f2 gAddS (fVar 2) (fC (.str " "))) (fVar 3)))))) [.dat (.tuple [.int n, .int (t.2.2.1 : Int)]), .dat (.int (t.2.2.2 : Int)), .dat (.str (ofL (rsL t.2.1 t.2.2.1))), .no] = some (.ret (.val (.str (ofL (tmL t))))) := by
    have hif : fB (f2 (gEq false) (fVar 1) (fC (.int 0))) [.dat (.tuple [.int n, .int (t.2.2.1 : Int)]), .dat (.int (t.2.2.2 : Int)), .dat (.str (ofL (rsL t.2.1 t.2.2.1))), .no] = okM (decide ((t.2.2.2 : Int) = 0)) := ev_fB (ev_f2 rfl rfl (gEq_int _ _)) rfl
    by_cases c : t.2.2.2 = 0
    · refine ev_sifT (by rw [hif, decide_eq_true (by omega)]) (ev_sret rfl ?_)
      have : tmL t = rsL t.2.1 t.2.2.1 := by unfold tmL tmW; rw [if_pos c]; rfl
      rw [this]; rfl
    · refine ev_sifF (by rw [hif, decide_eq_false (by omega)]) (ev_snext ?_)
      have l7 : (tS (t.2.2.2 : Int)).length ≤ 12 := dl (by omega)
      have l8 : ("x^" : Str).length = 2 := by decide +kernel
      have hpx : gIx (.new [.str "x", .str ("x^" ++ tS (t.2.2.2 : Int))]) (.dat (.int (if decide ((t.2.2.2 : Int) > 1) then 1 else 0))) = okM (.dat (.str (ofL (pwL t.2.2.2)))) := by
        by_cases c1 : t.2.2.2 = 1
        · rw [c1]; rw [pw_one]; exact ix_new (j := 0) rfl rfl
        · rw [decide_eq_true (by omega), pw_more c1]; exact ix_new (j := 1) rfl rfl
      refine ev_sset (x := .dat (.str (ofL (pwL t.2.2.2)))) (ev_f2 (ev_call (ev_cons rfl (ev_cons (ev_f2 rfl (ev_call rfl (str_of (big12 (by omega)))) (gAddSt (by omega))) rfl)) rfl) (ev_call (ev_cons (ev_f2 rfl rfl rfl) rfl) rfl) hpx) rfl (by walk_at "ss") ?_
      have sr : SOk (ofL (rsL t.2.1 t.2.2.1)) := sok_ofL fun c hc => by have := all_rs _ _ c hc; omega
      have one : ("1" : Str) = ofL [49] := by decide +kernel
      have hif2 : fB (f2 (gEq false) (fVar 2) (fC (.str "1"))) [.dat (.tuple [.int n, .int (t.2.2.1 : Int)]), .dat (.int (t.2.2.2 : Int)), .dat (.str (ofL (rsL t.2.1 t.2.2.1))), .dat (.str (ofL (pwL t.2.2.2)))] = okM (decide (ofL (rsL t.2.1 t.2.2.1) = "1")) := ev_fB (ev_f2 rfl rfl (gEqS sr (sok_of "1"))) rfl
      have key : ofL (rsL t.2.1 t.2.2.1) = "1" ↔ t.2.1 = 1 ∧ t.2.2.1 = 1 := by
        rw [one]
        constructor
        · intro e
          have e' : rsL t.2.1 t.2.2.1 = [49] := by have := congrArg cpl e; rwa [cpl_ofL, cpl_ofL] at this
          unfold rsL at e'
          have nd := dg_ne t.2.1
          by_cases b1 : t.2.2.1 = 1
          · rw [if_pos b1, List.append_nil] at e'
            refine ⟨?_, b1⟩
            have := dg_val t.2.1
            rw [e'] at this
            rw [← this]; rfl
          · rw [if_neg b1] at e'
            have := congrArg List.length e'
            rw [List.length_append, List.length_cons] at this
            have := List.length_pos_iff.mpr nd
            simp at *
            omega
        · rintro ⟨e1, e2⟩
          rw [e1, e2]; decide +kernel
      by_cases c2 : t.2.1 = 1 ∧ t.2.2.1 = 1
      · refine ev_sifT (by rw [hif2, decide_eq_true (key.mpr c2)]) (ev_sret rfl ?_)
        have : tmL t = pwL t.2.2.2 := by unfold tmL tmW; rw [if_neg c, if_pos c2]; rfl
        rw [this]; rfl
      · refine ev_sifF (by rw [hif2, decide_eq_false (fun z => c2 (key.mp z))]) (ev_snext ?_)
        have l1 := rs_len h1 h2
        have l2 := pw_len h4
        have l3 : (" " : Str).length = 1 := by decide +kernel
        refine ev_ret (ev_f2 (ev_f2 rfl rfl (gAddSt (by rw [ofL_len]; omega))) rfl (gAddSt (by rw [len_app, ofL_len, ofL_len]; omega))) ?_
        rw [tm_two c c2]; rfl
  have hif : fB (f2 (gI gGt) (f2 gIx (fVar 0) (fC (.int 1))) (fC (.int 1))) [.dat (.tuple [.int n, .int (t.2.2.1 : Int)]), .dat (.int (t.2.2.2 : Int)), .dat (.str (tS (t.2.1 : Int))), .no] = okM (decide ((t.2.2.1 : Int) > 1)) := ev_fB (ev_f2 (ev_f2 rfl rfl ix_t1) rfl rfl) rfl
  by_cases c : t.2.2.1 = 1
  · refine ev_sifF (by rw [hif, decide_eq_false (by omega)]) (ev_snext ?_)
    have e : tS (t.2.1 : Int) = ofL (rsL t.2.1 t.2.2.1) := by rw [tS_r1, c]
    rw [e]; exact rest
  · refine ev_sifT (by rw [hif, decide_eq_true (by omega)]) ?_
    refine ev_sset (ev_f2 (ev_f2 rfl rfl (gAddSt (by omega))) (ev_call (ev_cons (ev_f2 rfl rfl ix_t1) rfl) (str_of (big12 h2))) (gAddSt (by rw [len_app]; omega))) rfl (by walk_at "ss") ?_
    rw [tS_rs c]; exact rest
/-! a curve written -/
theorem tk_of {l : List Rat} (hl : ∀ q ∈ l, Bd q) (h13 : l.length ≤ 13) (i : Nat) : ∀ t ∈ tsF 0 (l.take i), Tk t := tsF_ok 0 _ (fun q hq => hl q (List.mem_of_mem_take hq)) (by rw [List.length_take]; omega)
theorem tx_l {l : List Rat} (hl : ∀ q ∈ l, Bd q) (h13 : l.length ≤ 13) (i : Nat) : (ofL (txA (tsF 0 (l.take i)))).length ≤ 520 := by
  have h1 := tx_len _ (tk_of hl h13 i)
  have h2 := tsF_len 0 (l.take i)
  rw [List.length_take] at h2
  rw [ofL_len]
  have := Nat.mul_le_mul_right 40 (show (tsF 0 (l.take i)).length ≤ 13 by omega)
  omega
theorem emp_iff (A : List Tm) : ofL (txA A) = ("" : Str) ↔ A = [] := by
  constructor
  · intro e
    by_cases c : A = []
    · exact c
    · exact absurd e (len_pos_ne (by rw [ofL_len]; exact List.length_pos_iff.mpr (txA_ne A c)))
  · intro e; rw [e]; rfl
theorem num_neg (q : Rat) : q.num < 0 ↔ q < 0 := by rw [Rat.lt_iff]; simp
theorem sgnl (q : Rat) : (if 0 < q.num then (1 : Int) else if q.num < 0 then -1 else 0) < 0 ↔ q < 0 := by
  rw [← num_neg]
  split
  · omega
  · split <;> omega
theorem take_q {l : List Rat} {i : Nat} (hi : i < l.length) : l.take (i + 1) = l.take i ++ [l[i]] := by rw [List.take_succ, List.getElem?_eq_getElem hi]; rfl
theorem ts_next {l : List Rat} {i : Nat} (hi : i < l.length) : tsF 0 (l.take (i + 1)) = tsF 0 (l.take i) ++ (if l[i] = 0 then [] else [tmQ l[i] i]) := by
  rw [take_q hi, tsF_snoc, List.length_take]
  have : 0 + min i l.length = i := by omega
  rw [this]
theorem P_show_curve (l : List Rat) (hl : ∀ q ∈ l, Bd q) (h13 : l.length ≤ 13) : F_show_curve [cD l] = okM (.val (.str (ofL (txF l)))) := by
  refine ev_fn rfl ?_
  show B_show_curve [.dat (cD l), .no, .no, .no] = _
  unfold B_show_curve
  refine ev_sset (x := .dat (.str "")) rfl rfl (by walk_at "ss") ?_
  obtain ⟨δ', e, r2, r3, rfl⟩ := forN_inv (g := tName 2) (b := (fSeq (fSet 3 (f2 gIx (fVar 0) (fVar 2)))
    (fSeq (fIfS (fB (f2 (gEq false) (fCall (gF 1 F_sign) (fCons (fVar 3) fNil)) (fC (.int 0)))) fCnt fNext)
    (fSeq (fIfS (fB (f2 (gEq true) (fVar 1) (fC (.str "")))) (fSet 1 (f2 gAddS (fVar 1) (fIf (fB (f2 (gI gLt) (fCall (gF 1 F_sign) (fCons (fVar 3) fNil)) (fC (.int 0)))) (fC (.str " - ")) (fC (.str " + "))))) (fIfS (fB (f2 (gI gLt) (fCall (gF 1 F_sign) (fCons (fVar 3) fNil)) (fC (.int 0)))) (fSet 1 (fC (.str "-"))) fNext))
    (fSet 1 (f2 gAddS (fVar 1) (fCall (gF 2 F_show_term) (fCons (fCall D3.gTup (fCons (fCall (g1 absOf) (fCons (f2 gIx (fVar 3) (fC (.int 0))) fNil)) (fCons (f2 gIx (fVar 3) (fC (.int 1))) fNil))) (fCons (fVar 2) fNil))))))))) (δ := [.dat (cD l), .dat (.str ("")), .no, .no])
    (fun i δ => ∃ r2 r3 : Sl, δ = [.dat (cD l), .dat (.str (ofL (txA (tsF 0 (l.take i))))), r2, r3]) (rangeL 0 l.length) ⟨.no, .no, rfl⟩
    (by
      rintro i d δ hd ⟨r2, r3, rfl⟩
      obtain ⟨hi, rfl⟩ := range_at hd
      have ex : (0 : Int) + (i : Int) = (i : Int) := by omega
      rw [ex]
      have hq := List.getElem?_eq_getElem hi
      obtain ⟨q, eq_⟩ : ∃ q, q = l[i] := ⟨_, rfl⟩
      rw [← eq_] at hq
      have tn := ts_next hi
      rw [← eq_] at tn
      have l1 := tx_l hl h13 i
      have P1 := P_sign q
      obtain ⟨A, hA⟩ : ∃ A, A = tsF 0 (l.take i) := ⟨_, rfl⟩
      rw [← hA] at tn l1 ⊢
      rw [tn]
      have hif : ∀ x : Sl, fB (f2 (gEq false) (fCall (gF 1 F_sign) (fCons (fVar 3) fNil)) (fC (.int 0))) [.dat (cD l), x, .dat (.int (i : Int)), .dat (nD q)] = okM (decide (q = 0)) := fun x => by
        rw [← sign_zero]; exact ev_fB (ev_f2 (ev_call rfl (ev_gF rfl rfl P1 rfl)) rfl (gEq_int _ _)) rfl
      have hlt : ∀ x : Sl, fB (f2 (gI gLt) (fCall (gF 1 F_sign) (fCons (fVar 3) fNil)) (fC (.int 0))) [.dat (cD l), x, .dat (.int (i : Int)), .dat (nD q)] = okM (decide (q < 0)) := fun x => by
        refine (ev_fB (ev_f2 (ev_call rfl (ev_gF rfl rfl P1 rfl)) rfl rfl) rfl).trans ?_
        exact congrArg okM (decide_eq_decide.mpr (sgnl q))
      by_cases c0 : q = 0
      · rw [if_pos c0, List.append_nil]
        refine ⟨_, [.dat (cD l), .dat (.str (ofL (txA A))), .dat (.int (i : Int)), .dat (nD q)], rfl, .inr ?_, _, _, rfl⟩
        refine ev_sset (ev_f2 rfl rfl (ix_tup (j := i) rfl (get_nD hq))) rfl (by walk_at "ss") ?_
        exact ev_sifT (by exact (hif _).trans (congrArg okM (decide_eq_true c0))) rfl
      · rw [if_neg c0]
        have bq := hl q (List.mem_of_getElem? hq)
        have tk : Tk (tmQ q i) := ⟨bq.1, bq.2, q.den_pos, by show i ≤ 12; omega⟩
        have l2 := tm_len tk
        have st := P_show_term tk
        refine ⟨_, [.dat (cD l), .dat (.str (ofL (txA (A ++ [tmQ q i])))), .dat (.int (i : Int)), .dat (nD q)], rfl, .inl ?_, _, _, rfl⟩
        refine ev_sset (ev_f2 rfl rfl (ix_tup (j := i) rfl (get_nD hq))) rfl (by walk_at "ss") ?_
        refine ev_sifF (by exact (hif _).trans (congrArg okM (decide_eq_false c0))) (ev_snext ?_)
        have fin : ∀ s : Str, s.length ≤ 600 → s ++ ofL (tmL (tmQ q i)) = ofL (txA (A ++ [tmQ q i])) → (fSet 1 (f2 gAddS (fVar 1) (fCall (gF 2 F_show_term) (fCons (fCall gTup (fCons (fCall (g1 absOf) (fCons (f2 gIx (fVar 3) (fC (.int 0))) fNil)) (fCons (f2 gIx (fVar 3) (fC (.int 1))) fNil))) (fCons (fVar 2) fNil))))) [.dat (cD l), .dat (.str s), .dat (.int (i : Int)), .dat (nD q)] = some (.next [.dat (cD l), .dat (.str (ofL (txA (A ++ [tmQ q i])))), .dat (.int (i : Int)), .dat (nD q)]) := fun s hs e => by
          refine ev_set (ev_f2 rfl (ev_call (ev_cons (ev_call (ev_cons (ev_call (ev_cons (ev_f2 rfl rfl ix_t0) rfl) (abs_of _)) (ev_cons (ev_f2 rfl rfl ix_t1) rfl)) rfl) (ev_cons rfl rfl)) (ev_gF rfl rfl st (outZ_str _))) (gAddSt (by rw [ofL_len]; omega))) rfl ?_
          rw [e]; rfl
        have hne : fB (f2 (gEq true) (fVar 1) (fC (.str ""))) [.dat (cD l), .dat (.str (ofL (txA A))), .dat (.int (i : Int)), .dat (nD q)] = okM (!decide (ofL (txA A) = "")) := ev_fB (ev_f2 rfl rfl (gNeS (sok_txA A) (sok_of ""))) rfl
        by_cases cA : A = []
        · subst cA
          refine ev_sifF (by exact hne.trans rfl) ?_
          have tx1 : txA ([] ++ [tmQ q i]) = sgH (tmQ q i) ++ tmL (tmQ q i) := by rw [txA_snoc, if_pos rfl]
          by_cases cn : q < 0
          · refine ev_sifT (by exact (hlt _).trans (congrArg okM (decide_eq_true cn))) (ev_sset (x := .dat (.str "-")) rfl rfl (by walk_at "ss") (fin "-" (by decide +kernel) ?_))
            rw [tx1, dash, ← ofL_app]
            unfold sgH tmQ
            rw [decide_eq_true cn, if_pos rfl]
          · refine ev_sifF (by exact (hlt _).trans (congrArg okM (decide_eq_false cn))) (ev_snext (fin _ (by decide +kernel) ?_))
            rw [tx1]
            unfold sgH tmQ
            rw [decide_eq_false cn, if_neg (by exact Bool.false_ne_true)]
            exact emp_app _
        · have tx1 : txA (A ++ [tmQ q i]) = txA A ++ ([32, sgC (tmQ q i), 32] ++ tmL (tmQ q i)) := by rw [txA_snoc, if_neg cA]
          have mk : (fIf (fB (f2 (gI gLt) (fCall (gF 1 F_sign) (fCons (fVar 3) fNil)) (fC (.int 0)))) (fC (.str " - ")) (fC (.str " + "))) [.dat (cD l), .dat (.str (ofL (txA A))), .dat (.int (i : Int)), .dat (nD q)] = okM (.dat (.str (ofL [32, sgC (tmQ q i), 32]))) := by
            by_cases cn : q < 0
            · refine (ev_ifT (by exact (hlt _).trans (congrArg okM (decide_eq_true cn))) (z := .dat (.str " - ")) rfl).trans ?_
              have : ofL [32, sgC (tmQ q i), 32] = (" - " : Str) := by unfold sgC tmQ; rw [decide_eq_true cn, if_pos rfl]; decide +kernel
              rw [this]
            · refine (ev_ifF (by exact (hlt _).trans (congrArg okM (decide_eq_false cn))) (z := .dat (.str " + ")) rfl).trans ?_
              have : ofL [32, sgC (tmQ q i), 32] = (" + " : Str) := by unfold sgC tmQ; rw [decide_eq_false cn, if_neg (by exact Bool.false_ne_true)]; decide +kernel
              rw [this]
          refine ev_sifT (by exact hne.trans (congrArg okM (by rw [decide_eq_false (fun z => cA ((emp_iff A).mp z))]; rfl))) ?_
          refine ev_sset (ev_f2 rfl mk (gAddSt (by rw [ofL_len [32, sgC (tmQ q i), 32]]; simp only [List.length_cons, List.length_nil]; omega))) rfl (by walk_at "ss") (fin _ (by rw [len_app, ofL_len [32, sgC (tmQ q i), 32]]; simp only [List.length_cons, List.length_nil]; omega) ?_)
          rw [tx1, ofL_app, ofL_app, app_assoc])
  rw [range_len, List.take_length] at e
  refine ev_seq (ev_for (ev_rng1 (m := l.length) (ev_cons (ev_call rfl (len_cD l)) rfl) (by omega) (by omega) (by omega)) e) ?_
  have hne : fB (f2 (gEq true) (fVar 1) (fC (.str ""))) [.dat (cD l), .dat (.str (ofL (txA (tsF 0 l)))), r2, r3] = okM (!decide (ofL (txA (tsF 0 l)) = "")) := ev_fB (ev_f2 rfl rfl (gNeS (sok_txA _) (sok_of ""))) rfl
  unfold txF
  by_cases c : tsF 0 l = []
  · rw [if_pos c]
    refine ev_ret (ev_ifF (by rw [hne, c]; rfl) rfl) ?_
    rw [show ("0" : Str) = ofL [48] by decide +kernel]; rfl
  · rw [if_neg c]
    exact ev_ret (ev_ifT (by rw [hne, decide_eq_false (fun z => c ((emp_iff _).mp z))]; rfl) rfl) rfl
theorem L_text (l : List Rat) (hl : ∀ q ∈ l, Bd q) (h13 : l.length ≤ 13) : F__law_text [lD l] = okM (.val (.str (ofL (txF l)))) := by
  refine ev_fn rfl ?_
  show B__law_text [.dat (lD l), .no, .no, .no] = _
  unfold B__law_text
  refine ev_sset (x := .dat (.str "")) rfl rfl (by walk_at "ss") ?_
  have llen : g1 lenOf [Rz.dat (lD l)] = okM (.dat (.int (l.length : Int))) := by
    show okM (Rz.dat (PyData.int ((l.map nD).length : Int))) = _
    rw [List.length_map]
  obtain ⟨δ', e, r2, r3, rfl⟩ := forN_inv (g := tName 2) (b := (fSeq (fSet 3 (fCall (g1 intOf) (fCons (f2 (gI gLt) (f2 gIx (f2 gIx (fVar 0) (fVar 2)) (fC (.int 0))) (fC (.int 0))) fNil)))
    (fIfS (fAnd (fB (f2 (gEq true) (f2 gIx (f2 gIx (fVar 0) (fVar 2)) (fC (.int 0))) (fC (.int 0)))) (fB (f2 (gEq false) (fVar 1) (fC (.str ""))))) (fSet 1 (f2 gAddS (f2 gIx (fCall D3.gLst (fCons (fC (.str "")) (fCons (fC (.str "-")) fNil))) (fVar 3)) (fCall (gF 2 F__law_term) (fCons (f2 gIx (fVar 0) (fVar 2)) (fCons (fVar 2) fNil))))) (fIfS (fB (f2 (gEq true) (f2 gIx (f2 gIx (fVar 0) (fVar 2)) (fC (.int 0))) (fC (.int 0)))) (fSet 1 (f2 gAddS (f2 gAddS (fVar 1) (f2 gIx (fCall D3.gLst (fCons (fC (.str " + ")) (fCons (fC (.str " - ")) fNil))) (fVar 3))) (fCall (gF 2 F__law_term) (fCons (f2 gIx (fVar 0) (fVar 2)) (fCons (fVar 2) fNil))))) fNext)))) (δ := [.dat (lD l), .dat (.str ("")), .no, .no])
    (fun i δ => ∃ r2 r3 : Sl, δ = [.dat (lD l), .dat (.str (ofL (txA (tsF 0 (l.take i))))), r2, r3]) (rangeL 0 l.length) ⟨.no, .no, rfl⟩
    (by
      rintro i d δ hd ⟨r2, r3, rfl⟩
      obtain ⟨hi, rfl⟩ := range_at hd
      have ex : (0 : Int) + (i : Int) = (i : Int) := by omega
      rw [ex]
      have hq := List.getElem?_eq_getElem hi
      obtain ⟨q, eq_⟩ : ∃ q, q = l[i] := ⟨_, rfl⟩
      rw [← eq_] at hq
      have tn := ts_next hi
      rw [← eq_] at tn
      have l1 := tx_l hl h13 i
      obtain ⟨A, hA⟩ : ∃ A, A = tsF 0 (l.take i) := ⟨_, rfl⟩
      rw [← hA] at tn l1 ⊢
      rw [tn]
      obtain ⟨w, hw⟩ : ∃ w : Int, w = if decide (q.num < 0) then 1 else 0 := ⟨_, rfl⟩
      have e1 : ∀ x3 : Sl, (f2 gIx (fVar 0) (fVar 2)) [.dat (lD l), .dat (.str (ofL (txA A))), .dat (.int (i : Int)), x3] = okM (.dat (nD q)) := fun _ => ev_f2 rfl rfl (ix_lst (j := i) rfl (get_nD hq))
      have hz : fB (f2 (gEq true) (f2 gIx (f2 gIx (fVar 0) (fVar 2)) (fC (.int 0))) (fC (.int 0))) [.dat (lD l), .dat (.str (ofL (txA A))), .dat (.int (i : Int)), .dat (.int w)] = okM (!decide (q.num = 0)) := ev_fB (ev_f2 (ev_f2 (e1 _) rfl ix_t0) rfl (gNe_int _ _)) rfl
      have hs1 : ∀ {r : Option Fl}, (fIfS (fAnd (fB (f2 (gEq true) (f2 gIx (f2 gIx (fVar 0) (fVar 2)) (fC (.int 0))) (fC (.int 0)))) (fB (f2 (gEq false) (fVar 1) (fC (.str ""))))) (fSet 1 (f2 gAddS (f2 gIx (fCall D3.gLst (fCons (fC (.str "")) (fCons (fC (.str "-")) fNil))) (fVar 3)) (fCall (gF 2 F__law_term) (fCons (f2 gIx (fVar 0) (fVar 2)) (fCons (fVar 2) fNil))))) (fIfS (fB (f2 (gEq true) (f2 gIx (f2 gIx (fVar 0) (fVar 2)) (fC (.int 0))) (fC (.int 0)))) (fSet 1 (f2 gAddS (f2 gAddS (fVar 1) (f2 gIx (fCall D3.gLst (fCons (fC (.str " + ")) (fCons (fC (.str " - ")) fNil))) (fVar 3))) (fCall (gF 2 F__law_term) (fCons (f2 gIx (fVar 0) (fVar 2)) (fCons (fVar 2) fNil))))) fNext)) [.dat (lD l), .dat (.str (ofL (txA A))), .dat (.int (i : Int)), .dat (.int w)] = r → (fSeq (fSet 3 (fCall (g1 intOf) (fCons (f2 (gI gLt) (f2 gIx (f2 gIx (fVar 0) (fVar 2)) (fC (.int 0))) (fC (.int 0))) fNil)))
    (fIfS (fAnd (fB (f2 (gEq true) (f2 gIx (f2 gIx (fVar 0) (fVar 2)) (fC (.int 0))) (fC (.int 0)))) (fB (f2 (gEq false) (fVar 1) (fC (.str ""))))) (fSet 1 (f2 gAddS (f2 gIx (fCall D3.gLst (fCons (fC (.str "")) (fCons (fC (.str "-")) fNil))) (fVar 3)) (fCall (gF 2 F__law_term) (fCons (f2 gIx (fVar 0) (fVar 2)) (fCons (fVar 2) fNil))))) (fIfS (fB (f2 (gEq true) (f2 gIx (f2 gIx (fVar 0) (fVar 2)) (fC (.int 0))) (fC (.int 0)))) (fSet 1 (f2 gAddS (f2 gAddS (fVar 1) (f2 gIx (fCall D3.gLst (fCons (fC (.str " + ")) (fCons (fC (.str " - ")) fNil))) (fVar 3))) (fCall (gF 2 F__law_term) (fCons (f2 gIx (fVar 0) (fVar 2)) (fCons (fVar 2) fNil))))) fNext))) [.dat (lD l), .dat (.str (ofL (txA A))), .dat (.int (i : Int)), r3] = r := fun hr =>
        ev_sset (x := .dat (.int w)) (ev_call (ev_cons (ev_f2 (ev_f2 (e1 _) rfl ix_t0) rfl rfl) rfl) (by rw [hw]; rfl)) rfl (by walk_at "ss") hr
      by_cases c0 : q = 0
      · rw [if_pos c0, List.append_nil]
        have n0 : q.num = 0 := by rw [c0]; rfl
        refine ⟨_, [.dat (lD l), .dat (.str (ofL (txA A))), .dat (.int (i : Int)), .dat (.int w)], rfl, .inl (hs1 ?_), _, _, rfl⟩
        refine ev_iF (ev_andF (by rw [hz, decide_eq_true n0]; rfl)) ?_
        exact ev_iF (by rw [hz, decide_eq_true n0]; rfl) rfl
      · rw [if_neg c0]
        have n0 : q.num ≠ 0 := fun z => c0 (Rat.num_eq_zero.mp z)
        have bq := hl q (List.mem_of_getElem? hq)
        have tk : Tk (tmQ q i) := ⟨bq.1, bq.2, q.den_pos, by show i ≤ 12; omega⟩
        have l2 := tm_len tk
        have st := L_term (n := q.num) (b := q.den) (k := i) (tmQ q i) tk rfl rfl rfl
        have hT : (fCall (gF 2 F__law_term) (fCons (f2 gIx (fVar 0) (fVar 2)) (fCons (fVar 2) fNil))) [.dat (lD l), .dat (.str (ofL (txA A))), .dat (.int (i : Int)), .dat (.int w)] = okM (.dat (.str (ofL (tmL (tmQ q i))))) := ev_call (ev_cons (e1 _) (ev_cons rfl rfl)) (ev_gF (ds := [nD q, .int (i : Int)]) rfl rfl st (outZ_str _))
        have hem : fB (f2 (gEq false) (fVar 1) (fC (.str ""))) [.dat (lD l), .dat (.str (ofL (txA A))), .dat (.int (i : Int)), .dat (.int w)] = okM (decide (ofL (txA A) = "")) := ev_fB (ev_f2 rfl rfl (gEqS (sok_txA A) (sok_of ""))) rfl
        refine ⟨_, [.dat (lD l), .dat (.str (ofL (txA (A ++ [tmQ q i])))), .dat (.int (i : Int)), .dat (.int w)], rfl, .inl (hs1 ?_), _, _, rfl⟩
        by_cases cA : A = []
        · have tx1 : txA (A ++ [tmQ q i]) = sgH (tmQ q i) ++ tmL (tmQ q i) := by rw [txA_snoc, if_pos cA]
          have hmk : gIx (.new [.str "", .str "-"]) (.dat (.int w)) = okM (.dat (.str (ofL (sgH (tmQ q i))))) := by
            unfold sgH tmQ
            by_cases cn : q < 0
            · rw [hw, decide_eq_true ((num_neg q).mpr cn), decide_eq_true cn, if_pos rfl, if_pos rfl, ← dash]; exact ix_new (j := 1) rfl rfl
            · rw [hw, decide_eq_false (fun z => cn ((num_neg q).mp z)), decide_eq_false cn, if_neg (by decide), if_neg (by exact Bool.false_ne_true)]; exact ix_new (j := 0) rfl rfl
          refine ev_iT (ev_andT (by rw [hz, decide_eq_false n0]; rfl) (by rw [hem, decide_eq_true ((emp_iff A).mpr cA)])) ?_
          have ls : (sgH (tmQ q i)).length ≤ 1 := by unfold sgH; split <;> simp
          refine ev_set (ev_f2 (ev_f2 (ev_call (ev_cons rfl (ev_cons rfl rfl)) rfl) rfl hmk) hT (gAddSt (by rw [ofL_len, ofL_len]; omega))) rfl ?_
          rw [tx1, ofL_app]; rfl
        · have tx1 : txA (A ++ [tmQ q i]) = txA A ++ ([32, sgC (tmQ q i), 32] ++ tmL (tmQ q i)) := by rw [txA_snoc, if_neg cA]
          have hmk : gIx (.new [.str " + ", .str " - "]) (.dat (.int w)) = okM (.dat (.str (ofL [32, sgC (tmQ q i), 32]))) := by
            unfold sgC tmQ
            by_cases cn : q < 0
            · rw [hw, decide_eq_true ((num_neg q).mpr cn), decide_eq_true cn, if_pos rfl, if_pos rfl, show ofL [32, 45, 32] = (" - " : Str) by decide +kernel]; exact ix_new (j := 1) rfl rfl
            · rw [hw, decide_eq_false (fun z => cn ((num_neg q).mp z)), decide_eq_false cn, if_neg (by decide), if_neg (by exact Bool.false_ne_true), show ofL [32, 43, 32] = (" + " : Str) by decide +kernel]; exact ix_new (j := 0) rfl rfl
          refine ev_iF (ev_andT (by rw [hz, decide_eq_false n0]; rfl) (by rw [hem, decide_eq_false (fun z => cA ((emp_iff A).mp z))])) ?_
          refine ev_iT (by rw [hz, decide_eq_false n0]; rfl) ?_
          refine ev_set (ev_f2 (ev_f2 rfl (ev_f2 (ev_call (ev_cons rfl (ev_cons rfl rfl)) rfl) rfl hmk) (gAddSt (by rw [ofL_len (l := [32, sgC (tmQ q i), 32])]; simp only [List.length_cons, List.length_nil]; omega))) hT (gAddSt (by rw [len_app, ofL_len (l := [32, sgC (tmQ q i), 32]), ofL_len (l := tmL (tmQ q i))]; simp only [List.length_cons, List.length_nil]; omega))) rfl ?_
          rw [tx1, ofL_app, ofL_app, app_assoc]; rfl)
  rw [range_len, List.take_length] at e
  refine ev_seq (ev_for (ev_rng1 (m := l.length) (ev_cons (ev_call rfl llen) rfl) (by omega) (by omega) (by omega)) e) ?_
  have hem : fB (f2 (gEq false) (fVar 1) (fC (.str ""))) [.dat (lD l), .dat (.str (ofL (txA (tsF 0 l)))), r2, r3] = okM (decide (ofL (txA (tsF 0 l)) = "")) := ev_fB (ev_f2 rfl rfl (gEqS (sok_txA _) (sok_of ""))) rfl
  unfold txF
  by_cases c : tsF 0 l = []
  · rw [if_pos c]
    refine ev_sifT (by rw [hem, decide_eq_true ((emp_iff _).mpr c)]) (ev_sret rfl ?_)
    rw [show ("0" : Str) = ofL [48] by decide +kernel]; rfl
  · rw [if_neg c]
    exact ev_sifF (by rw [hem, decide_eq_false (fun z => c ((emp_iff _).mp z))]) (ev_snext (ev_ret rfl rfl))
theorem L_textT (l : List Rat) (hl : ∀ q ∈ l, Bd q) (h13 : l.length ≤ 13) : F__law_text [cD l] = okM (.val (.str (ofL (txF l)))) := by
  refine ev_fn rfl ?_
  show B__law_text [.dat (cD l), .no, .no, .no] = _
  unfold B__law_text
  refine ev_sset (x := .dat (.str "")) rfl rfl (by walk_at "ss") ?_
  have llen : g1 lenOf [Rz.dat (cD l)] = okM (.dat (.int (l.length : Int))) := by
    show okM (Rz.dat (PyData.int ((l.map nD).length : Int))) = _
    rw [List.length_map]
  obtain ⟨δ', e, r2, r3, rfl⟩ := forN_inv (g := tName 2) (b := (fSeq (fSet 3 (fCall (g1 intOf) (fCons (f2 (gI gLt) (f2 gIx (f2 gIx (fVar 0) (fVar 2)) (fC (.int 0))) (fC (.int 0))) fNil)))
    (fIfS (fAnd (fB (f2 (gEq true) (f2 gIx (f2 gIx (fVar 0) (fVar 2)) (fC (.int 0))) (fC (.int 0)))) (fB (f2 (gEq false) (fVar 1) (fC (.str ""))))) (fSet 1 (f2 gAddS (f2 gIx (fCall D3.gLst (fCons (fC (.str "")) (fCons (fC (.str "-")) fNil))) (fVar 3)) (fCall (gF 2 F__law_term) (fCons (f2 gIx (fVar 0) (fVar 2)) (fCons (fVar 2) fNil))))) (fIfS (fB (f2 (gEq true) (f2 gIx (f2 gIx (fVar 0) (fVar 2)) (fC (.int 0))) (fC (.int 0)))) (fSet 1 (f2 gAddS (f2 gAddS (fVar 1) (f2 gIx (fCall D3.gLst (fCons (fC (.str " + ")) (fCons (fC (.str " - ")) fNil))) (fVar 3))) (fCall (gF 2 F__law_term) (fCons (f2 gIx (fVar 0) (fVar 2)) (fCons (fVar 2) fNil))))) fNext)))) (δ := [.dat (cD l), .dat (.str ("")), .no, .no])
    (fun i δ => ∃ r2 r3 : Sl, δ = [.dat (cD l), .dat (.str (ofL (txA (tsF 0 (l.take i))))), r2, r3]) (rangeL 0 l.length) ⟨.no, .no, rfl⟩
    (by
      rintro i d δ hd ⟨r2, r3, rfl⟩
      obtain ⟨hi, rfl⟩ := range_at hd
      have ex : (0 : Int) + (i : Int) = (i : Int) := by omega
      rw [ex]
      have hq := List.getElem?_eq_getElem hi
      obtain ⟨q, eq_⟩ : ∃ q, q = l[i] := ⟨_, rfl⟩
      rw [← eq_] at hq
      have tn := ts_next hi
      rw [← eq_] at tn
      have l1 := tx_l hl h13 i
      obtain ⟨A, hA⟩ : ∃ A, A = tsF 0 (l.take i) := ⟨_, rfl⟩
      rw [← hA] at tn l1 ⊢
      rw [tn]
      obtain ⟨w, hw⟩ : ∃ w : Int, w = if decide (q.num < 0) then 1 else 0 := ⟨_, rfl⟩
      have e1 : ∀ x3 : Sl, (f2 gIx (fVar 0) (fVar 2)) [.dat (cD l), .dat (.str (ofL (txA A))), .dat (.int (i : Int)), x3] = okM (.dat (nD q)) := fun _ => ev_f2 rfl rfl (ix_tup (j := i) rfl (get_nD hq))
      have hz : fB (f2 (gEq true) (f2 gIx (f2 gIx (fVar 0) (fVar 2)) (fC (.int 0))) (fC (.int 0))) [.dat (cD l), .dat (.str (ofL (txA A))), .dat (.int (i : Int)), .dat (.int w)] = okM (!decide (q.num = 0)) := ev_fB (ev_f2 (ev_f2 (e1 _) rfl ix_t0) rfl (gNe_int _ _)) rfl
      have hs1 : ∀ {r : Option Fl}, (fIfS (fAnd (fB (f2 (gEq true) (f2 gIx (f2 gIx (fVar 0) (fVar 2)) (fC (.int 0))) (fC (.int 0)))) (fB (f2 (gEq false) (fVar 1) (fC (.str ""))))) (fSet 1 (f2 gAddS (f2 gIx (fCall D3.gLst (fCons (fC (.str "")) (fCons (fC (.str "-")) fNil))) (fVar 3)) (fCall (gF 2 F__law_term) (fCons (f2 gIx (fVar 0) (fVar 2)) (fCons (fVar 2) fNil))))) (fIfS (fB (f2 (gEq true) (f2 gIx (f2 gIx (fVar 0) (fVar 2)) (fC (.int 0))) (fC (.int 0)))) (fSet 1 (f2 gAddS (f2 gAddS (fVar 1) (f2 gIx (fCall D3.gLst (fCons (fC (.str " + ")) (fCons (fC (.str " - ")) fNil))) (fVar 3))) (fCall (gF 2 F__law_term) (fCons (f2 gIx (fVar 0) (fVar 2)) (fCons (fVar 2) fNil))))) fNext)) [.dat (cD l), .dat (.str (ofL (txA A))), .dat (.int (i : Int)), .dat (.int w)] = r → (fSeq (fSet 3 (fCall (g1 intOf) (fCons (f2 (gI gLt) (f2 gIx (f2 gIx (fVar 0) (fVar 2)) (fC (.int 0))) (fC (.int 0))) fNil)))
    (fIfS (fAnd (fB (f2 (gEq true) (f2 gIx (f2 gIx (fVar 0) (fVar 2)) (fC (.int 0))) (fC (.int 0)))) (fB (f2 (gEq false) (fVar 1) (fC (.str ""))))) (fSet 1 (f2 gAddS (f2 gIx (fCall D3.gLst (fCons (fC (.str "")) (fCons (fC (.str "-")) fNil))) (fVar 3)) (fCall (gF 2 F__law_term) (fCons (f2 gIx (fVar 0) (fVar 2)) (fCons (fVar 2) fNil))))) (fIfS (fB (f2 (gEq true) (f2 gIx (f2 gIx (fVar 0) (fVar 2)) (fC (.int 0))) (fC (.int 0)))) (fSet 1 (f2 gAddS (f2 gAddS (fVar 1) (f2 gIx (fCall D3.gLst (fCons (fC (.str " + ")) (fCons (fC (.str " - ")) fNil))) (fVar 3))) (fCall (gF 2 F__law_term) (fCons (f2 gIx (fVar 0) (fVar 2)) (fCons (fVar 2) fNil))))) fNext))) [.dat (cD l), .dat (.str (ofL (txA A))), .dat (.int (i : Int)), r3] = r := fun hr =>
        ev_sset (x := .dat (.int w)) (ev_call (ev_cons (ev_f2 (ev_f2 (e1 _) rfl ix_t0) rfl rfl) rfl) (by rw [hw]; rfl)) rfl (by walk_at "ss") hr
      by_cases c0 : q = 0
      · rw [if_pos c0, List.append_nil]
        have n0 : q.num = 0 := by rw [c0]; rfl
        refine ⟨_, [.dat (cD l), .dat (.str (ofL (txA A))), .dat (.int (i : Int)), .dat (.int w)], rfl, .inl (hs1 ?_), _, _, rfl⟩
        refine ev_iF (ev_andF (by rw [hz, decide_eq_true n0]; rfl)) ?_
        exact ev_iF (by rw [hz, decide_eq_true n0]; rfl) rfl
      · rw [if_neg c0]
        have n0 : q.num ≠ 0 := fun z => c0 (Rat.num_eq_zero.mp z)
        have bq := hl q (List.mem_of_getElem? hq)
        have tk : Tk (tmQ q i) := ⟨bq.1, bq.2, q.den_pos, by show i ≤ 12; omega⟩
        have l2 := tm_len tk
        have st := L_term (n := q.num) (b := q.den) (k := i) (tmQ q i) tk rfl rfl rfl
        have hT : (fCall (gF 2 F__law_term) (fCons (f2 gIx (fVar 0) (fVar 2)) (fCons (fVar 2) fNil))) [.dat (cD l), .dat (.str (ofL (txA A))), .dat (.int (i : Int)), .dat (.int w)] = okM (.dat (.str (ofL (tmL (tmQ q i))))) := ev_call (ev_cons (e1 _) (ev_cons rfl rfl)) (ev_gF (ds := [nD q, .int (i : Int)]) rfl rfl st (outZ_str _))
        have hem : fB (f2 (gEq false) (fVar 1) (fC (.str ""))) [.dat (cD l), .dat (.str (ofL (txA A))), .dat (.int (i : Int)), .dat (.int w)] = okM (decide (ofL (txA A) = "")) := ev_fB (ev_f2 rfl rfl (gEqS (sok_txA A) (sok_of ""))) rfl
        refine ⟨_, [.dat (cD l), .dat (.str (ofL (txA (A ++ [tmQ q i])))), .dat (.int (i : Int)), .dat (.int w)], rfl, .inl (hs1 ?_), _, _, rfl⟩
        by_cases cA : A = []
        · have tx1 : txA (A ++ [tmQ q i]) = sgH (tmQ q i) ++ tmL (tmQ q i) := by rw [txA_snoc, if_pos cA]
          have hmk : gIx (.new [.str "", .str "-"]) (.dat (.int w)) = okM (.dat (.str (ofL (sgH (tmQ q i))))) := by
            unfold sgH tmQ
            by_cases cn : q < 0
            · rw [hw, decide_eq_true ((num_neg q).mpr cn), decide_eq_true cn, if_pos rfl, if_pos rfl, ← dash]; exact ix_new (j := 1) rfl rfl
            · rw [hw, decide_eq_false (fun z => cn ((num_neg q).mp z)), decide_eq_false cn, if_neg (by decide), if_neg (by exact Bool.false_ne_true)]; exact ix_new (j := 0) rfl rfl
          refine ev_iT (ev_andT (by rw [hz, decide_eq_false n0]; rfl) (by rw [hem, decide_eq_true ((emp_iff A).mpr cA)])) ?_
          have ls : (sgH (tmQ q i)).length ≤ 1 := by unfold sgH; split <;> simp
          refine ev_set (ev_f2 (ev_f2 (ev_call (ev_cons rfl (ev_cons rfl rfl)) rfl) rfl hmk) hT (gAddSt (by rw [ofL_len, ofL_len]; omega))) rfl ?_
          rw [tx1, ofL_app]; rfl
        · have tx1 : txA (A ++ [tmQ q i]) = txA A ++ ([32, sgC (tmQ q i), 32] ++ tmL (tmQ q i)) := by rw [txA_snoc, if_neg cA]
          have hmk : gIx (.new [.str " + ", .str " - "]) (.dat (.int w)) = okM (.dat (.str (ofL [32, sgC (tmQ q i), 32]))) := by
            unfold sgC tmQ
            by_cases cn : q < 0
            · rw [hw, decide_eq_true ((num_neg q).mpr cn), decide_eq_true cn, if_pos rfl, if_pos rfl, show ofL [32, 45, 32] = (" - " : Str) by decide +kernel]; exact ix_new (j := 1) rfl rfl
            · rw [hw, decide_eq_false (fun z => cn ((num_neg q).mp z)), decide_eq_false cn, if_neg (by decide), if_neg (by exact Bool.false_ne_true), show ofL [32, 43, 32] = (" + " : Str) by decide +kernel]; exact ix_new (j := 0) rfl rfl
          refine ev_iF (ev_andT (by rw [hz, decide_eq_false n0]; rfl) (by rw [hem, decide_eq_false (fun z => cA ((emp_iff A).mp z))])) ?_
          refine ev_iT (by rw [hz, decide_eq_false n0]; rfl) ?_
          refine ev_set (ev_f2 (ev_f2 rfl (ev_f2 (ev_call (ev_cons rfl (ev_cons rfl rfl)) rfl) rfl hmk) (gAddSt (by rw [ofL_len (l := [32, sgC (tmQ q i), 32])]; simp only [List.length_cons, List.length_nil]; omega))) hT (gAddSt (by rw [len_app, ofL_len (l := [32, sgC (tmQ q i), 32]), ofL_len (l := tmL (tmQ q i))]; simp only [List.length_cons, List.length_nil]; omega))) rfl ?_
          rw [tx1, ofL_app, ofL_app, app_assoc]; rfl)
  rw [range_len, List.take_length] at e
  refine ev_seq (ev_for (ev_rng1 (m := l.length) (ev_cons (ev_call rfl llen) rfl) (by omega) (by omega) (by omega)) e) ?_
  have hem : fB (f2 (gEq false) (fVar 1) (fC (.str ""))) [.dat (cD l), .dat (.str (ofL (txA (tsF 0 l)))), r2, r3] = okM (decide (ofL (txA (tsF 0 l)) = "")) := ev_fB (ev_f2 rfl rfl (gEqS (sok_txA _) (sok_of ""))) rfl
  unfold txF
  by_cases c : tsF 0 l = []
  · rw [if_pos c]
    refine ev_sifT (by rw [hem, decide_eq_true ((emp_iff _).mpr c)]) (ev_sret rfl ?_)
    rw [show ("0" : Str) = ofL [48] by decide +kernel]; rfl
  · rw [if_neg c]
    exact ev_sifF (by rw [hem, decide_eq_false (fun z => c ((emp_iff _).mp z))]) (ev_snext (ev_ret rfl rfl))

theorem mapP {a : Str} (h : a.length ≤ 1000) {p q r : Str} (e : Txt.partition a "/" = (p, q, r)) : gPart "/" (.dat (.str a)) = okM (.dat (.tuple [.str p, .str q, .str r])) := by
  have sl : (sizeLine : Nat) = 16777216 := rfl
  unfold gPart Rz.d?
  dsimp only
  rw [if_pos ⟨by decide +kernel, by omega⟩, e]
theorem no47 (n : Nat) : ∀ c ∈ dgL n, c ≠ 47 := fun c hc => by have := dg_all n c hc; omega
theorem P_size_in {n b : Nat} (hn : n < 10 ^ 12) (hb : b < 10 ^ 12) (b1 : 1 ≤ b) : F_size_in [.str (ofL (rsL n b))] = okM (.val (nD (Rat.divInt (n : Int) (b : Int)))) := by
  refine ev_fn rfl ?_
  show B_size_in [.dat (.str (ofL (rsL n b))), .no, .no, .no] = _
  unfold B_size_in
  have rl : (ofL (rsL n b)).length ≤ 1000 := by rw [ofL_len]; have := rs_len hn hb; omega
  have wn := P_whole_in n hn
  have wb := P_whole_in b hb
  by_cases c : b = 1
  · subst c
    have e : rsL n 1 = dgL n := by unfold rsL; rw [if_pos rfl, List.append_nil]
    rw [e] at rl ⊢
    refine ev_sset (ev_fU rfl (mapP rl (part_no _ (no47 n)))) rfl (by walk_at "ss") ?_
    rw [tS_nat] at wn
    refine ev_sset (x := .dat (.int (n : Int))) (ev_call (ev_cons (ev_f2 rfl rfl ix_t0) rfl) (ev_gF rfl rfl wn rfl)) rfl (by walk_at "ss") ?_
    refine ev_sifT ((ev_fB (ev_f2 (ev_f2 rfl rfl ix_t1) rfl (gEqS (a := Str.empty) (b := "") (sok_of "") (sok_of ""))) rfl).trans rfl) ?_
    refine ev_sret (ev_call rfl rfl) ?_
    have : Rat.divInt (n : Int) ((1 : Nat) : Int) = ((n : Int) : Rat) := by
      rw [Rat.divInt_eq_div]; show ((n : Int) : Rat) / 1 = _; grind
    rw [this]; rfl
  · have e : rsL n b = dgL n ++ 47 :: dgL b := by unfold rsL; rw [if_neg c]
    rw [e] at rl ⊢
    refine ev_sset (ev_fU rfl (mapP rl (part_yes _ _ (no47 n)))) rfl (by walk_at "ss") ?_
    rw [tS_nat] at wn wb
    refine ev_sset (x := .dat (.int (n : Int))) (ev_call (ev_cons (ev_f2 rfl rfl ix_t0) rfl) (ev_gF rfl rfl wn rfl)) rfl (by walk_at "ss") ?_
    refine ev_sifF ((ev_fB (ev_f2 (ev_f2 rfl rfl ix_t1) rfl (gEqS (a := "/") (b := "") (sok_of "/") (sok_of ""))) rfl).trans (by rw [decide_eq_false (by decide +kernel)])) (ev_snext ?_)
    refine ev_sset (x := .dat (.int (b : Int))) (ev_call (ev_cons (ev_f2 rfl rfl (ix_tup (j := 2) rfl rfl)) rfl) (ev_gF rfl rfl wb rfl)) rfl (by walk_at "ss") ?_
    refine ev_sifF ((ev_fB (ev_f2 rfl rfl (gEq_int _ _)) rfl).trans (by rw [decide_eq_false (by omega)])) (ev_snext ?_)
    exact ev_ret (ev_call (ev_cons rfl (ev_cons rfl rfl)) (ev_gF rfl rfl (F_num (n : Int) (b : Int) (by omega) (by rw [Int.natAbs_natCast]; exact Nat.lt_trans hb (Nat.lt_of_lt_of_le (show (10 : Nat) ^ 12 < 2 ^ 40 by decide) (Nat.pow_le_pow_right (by decide) (by decide))))) (outZ_num _))) rfl
theorem P_check_text (a : Str) : F_check_text [.str a] = okM (.val .none) := by
  refine ev_fnN (δ' := [.dat (.str a)]) rfl ?_
  show B_check_text [.dat (.str a)] = _
  unfold B_check_text
  exact ev_iF (ev_notF (ev_fB (ev_fU rfl rfl) rfl)) rfl
theorem P_check_written (a : Str) (h : SOk a) : F_check_written [.str a, .str a] = okM (.val .none) := by
  refine ev_fnN (δ' := [.dat (.str a), .dat (.str a)]) rfl ?_
  show B_check_written [.dat (.str a), .dat (.str a)] = _
  unfold B_check_written
  refine ev_iF ((ev_fB (ev_f2 rfl rfl (gNeS h h)) rfl).trans ?_) rfl
  rw [decide_eq_true rfl]; rfl
theorem plus1 : ("+" : Str) = ofL [43] := by decide +kernel
theorem P_signed (t : Tm) (p : Rat) (zp : NB.Sz 100 p) : F_signed [.str (ofL [sgC t]), nD p] = okM (.val (nD (if t.1 = true then 0 - p else p))) := by
  refine ev_fn rfl ?_
  show B_signed [.dat (.str (ofL [sgC t])), .dat (nD p)] = _
  unfold B_signed sgC
  by_cases c : t.1 = true
  · rw [if_pos c, if_pos c, ← dash]
    refine ev_sifT ((ev_fB (ev_f2 rfl rfl (gEqS (a := "-") (b := "-") (sok_of "-") (sok_of "-"))) rfl).trans (by rw [decide_eq_true rfl])) ?_
    exact ev_sret (ev_call (ev_cons (x := .dat (nD 0)) rfl (ev_cons rfl rfl)) (ev_gF rfl rfl (P_minus 0 p ⟨by decide +kernel, by decide +kernel⟩ (zp.mono (by decide))) (outZ_num _))) rfl
  · rw [if_neg c, if_neg c, ← plus1]
    refine ev_sifF ((ev_fB (ev_f2 rfl rfl (gEqS (a := "+") (b := "-") (sok_of "+") (sok_of "-"))) rfl).trans (by rw [decide_eq_false (by decide +kernel)])) (ev_snext ?_)
    exact ev_ret rfl rfl
theorem outZ_two (a b : Str) : outZ (.val (.tuple [.str a, .str b])) = .dat (.tuple [.str a, .str b]) := by
  unfold outZ; dsimp only; rw [if_pos (by simp [noL, noLs])]
theorem P_sign_and_rest (t : Tm) (R : List Nat) (h : R.head? ≠ some 45) (hl : R.length ≤ 1000) : F_sign_and_rest [.str (ofL (sgH t ++ R))] = okM (.val (.tuple [.str (ofL [sgC t]), .str (ofL R)])) := by
  have sl : (sizeLine : Nat) = 16777216 := rfl
  refine ev_fn rfl ?_
  show B_sign_and_rest [.dat (.str (ofL (sgH t ++ R)))] = _
  unfold B_sign_and_rest sgH sgC
  by_cases c : t.1 = true
  · rw [if_pos c, if_pos c, ← dash]
    refine ev_sifT (ev_fB (ev_fU rfl (starts_yes _)) rfl) (ev_sret (ev_call (ev_cons rfl (ev_cons (x := .dat (.str (ofL R))) ?_ rfl)) rfl) rfl)
    show gSlS (.dat (.str (ofL (45 :: R)))) (some 1) none = _
    unfold gSlS Rz.d?
    dsimp only
    rw [slice1, if_pos (by rw [ofL_len]; omega)]
  · rw [if_neg c, if_neg c, ← plus1, List.nil_append]
    exact ev_sifF (ev_fB (ev_fU rfl (starts_no _ h)) rfl) (ev_snext (ev_ret (ev_call rfl rfl) rfl))
theorem sub_pre (b r : List Nat) : Builtin.Str.subAt (ofL (b ++ r)) (ofL b) 0 = true := by
  unfold Builtin.Str.subAt
  rw [beq_iff_eq]
  apply Array.toList_inj.mp
  rw [Array.toList_extract, List.extract_eq_take_drop]
  show List.take (0 + (ofL b).length - 0) (List.drop 0 (b ++ r)) = b
  rw [ofL_len, List.drop_zero, Nat.zero_add, Nat.sub_zero, List.take_left' rfl]
theorem starts_pre {s : Str} {b : List Nat} (hs : s = ofL b) (r : List Nat) : gStarts s (.dat (.str (ofL (b ++ r)))) = okM (.dat (.bool true)) := by
  unfold gStarts Rz.d?
  dsimp only
  rw [hs, sub_pre, decide_eq_true (by rw [ofL_len, ofL_len, List.length_append]; omega)]; rfl
theorem starts_x_no (l : List Nat) (h : l.head? ≠ some 120) : gStarts "x" (.dat (.str (ofL l))) = okM (.dat (.bool false)) := by
  unfold gStarts Rz.d?
  dsimp only
  have e : Builtin.Str.subAt (ofL l) "x" 0 = false := by
    rw [Bool.eq_false_iff]
    intro z
    rw [xs1] at z
    have := sub_at z
    rw [← List.head?_eq_getElem?] at this
    exact h this
  rw [e, Bool.and_false]
theorem slice2 (c d : Nat) (l : List Nat) : Txt.slice (ofL (c :: d :: l)) (some 2) none = ofL l := by
  rw [PyProof.Rows.slice_from_eq (b := ((ofL (c :: d :: l)).length : Int)) (by decide) (by rw [ofL_len, List.length_cons, List.length_cons]; omega) rfl]
  show Str.mk _ = Str.mk _
  congr 2
  show List.take (((ofL (c :: d :: l)).length : Int) - 2).toNat (List.drop 2 (c :: d :: l)) = l
  rw [ofL_len, List.drop_succ_cons, List.drop_succ_cons, List.drop_zero, List.length_cons, List.length_cons]
  exact List.take_of_length_le (by omega)
theorem P_power_in {k : Nat} (h : k ≤ 12) : F_power_in [.str (ofL (pwL k))] = okM (.val (.int (k : Int))) := by
  have sl : (sizeLine : Nat) = 16777216 := rfl
  refine ev_fn rfl ?_
  show B_power_in [.dat (.str (ofL (pwL k))), .no] = _
  unfold B_power_in
  have sp : SOk (ofL (pwL k)) := sok_ofL fun c hc => by have := all_pw _ c hc; omega
  have hif : fB (f2 (gEq false) (fVar 0) (fC (.str "x"))) [.dat (.str (ofL (pwL k))), .no] = okM (decide (ofL (pwL k) = "x")) := ev_fB (ev_f2 rfl rfl (gEqS sp (sok_of "x"))) rfl
  by_cases c : k = 1
  · subst c
    exact ev_sifT (by rw [hif, decide_eq_true pw_one]) (ev_sret rfl rfl)
  · have e : pwL k = 120 :: 94 :: dgL k := by unfold pwL; rw [if_neg c]
    have ne : ofL (pwL k) ≠ "x" := fun z => by
      rw [xs1] at z
      have := congrArg cpl z
      rw [cpl_ofL, cpl_ofL, e] at this
      simp at this
    refine ev_sifF (by rw [hif, decide_eq_false ne]) (ev_snext ?_)
    rw [e]
    refine ev_sifF (ev_notF (ev_fB (ev_fU rfl (starts_pre (b := [120, 94]) xs2 (dgL k))) rfl)) (ev_snext ?_)
    have wn := P_whole_in k (by omega)
    rw [tS_nat] at wn
    have dlen := (dg_len k 12 (by decide)).mpr (by omega)
    have hsl : (fSl gSlS (fVar 0) (fPart (fC (.int 2))) fNoP) [.dat (.str (ofL (120 :: 94 :: dgL k))), .no] = okM (.dat (.str (ofL (dgL k)))) := by
      show gSlS (.dat (.str (ofL (120 :: 94 :: dgL k)))) (some 2) none = _
      unfold gSlS Rz.d?
      dsimp only
      rw [slice2, if_pos (by rw [ofL_len]; omega)]
    refine ev_sset (x := .dat (.int (k : Int))) (ev_call (ev_cons hsl rfl) (ev_gF rfl rfl wn rfl)) rfl (by walk_at "ss") ?_
    refine ev_sifF ((ev_fB (ev_f2 rfl rfl rfl) rfl).trans (?_ : okM (decide ((k : Int) ≥ 13)) = okM false)) (ev_snext (ev_ret rfl rfl))
    rw [decide_eq_false (by omega)]
def tmV (t : Tm) : Rat := Rat.divInt (t.2.1 : Int) (t.2.2.1 : Int)
theorem outZ_kt (k : Int) (p : Rat) : outZ (.val (.tuple [.int k, nD p])) = .dat (.tuple [.int k, nD p]) := by
  unfold outZ; dsimp only; rw [if_pos (by simp [noL, noLs, noL_num])]
theorem P_term_in {t : Tm} (h : Tk t) : F_term_in [.list ((tmW t).map fun w => .str (ofL w))] = okM (.val (.tuple [.int (t.2.2.2 : Int), nD (tmV t)])) := by
  refine ev_fn rfl ?_
  show B_term_in [.dat (.list ((tmW t).map fun w => .str (ofL w)))] = _
  unfold B_term_in
  have e1 := P_size_in h.1 h.2.1 h.2.2.1
  have e2 := P_power_in h.2.2.2
  by_cases c : t.2.2.2 = 0
  · have e : tmW t = [rsL t.2.1 t.2.2.1] := by unfold tmW; rw [if_pos c]
    rw [e]
    have nx : (rsL t.2.1 t.2.2.1).head? ≠ some 120 := fun z => by have := all_rs _ _ 120 (List.mem_of_mem_head? z); omega
    refine ev_sifT (ev_andT (ev_fB (ev_f2 (ev_call rfl rfl) rfl (gEq_int _ _)) rfl) (ev_notT (ev_fB (ev_fU (ev_f2 rfl rfl (ix_lst (j := 0) rfl rfl)) (starts_x_no _ nx)) rfl))) ?_
    refine ev_sret (ev_call (ev_cons rfl (ev_cons (ev_call (ev_cons (ev_f2 rfl rfl (ix_lst (j := 0) rfl rfl)) rfl) (ev_gF rfl rfl e1 (outZ_num _))) rfl)) rfl) ?_
    rw [c]; rfl
  · obtain ⟨pr, hpr⟩ := pw_head t.2.2.2
    by_cases c2 : t.2.1 = 1 ∧ t.2.2.1 = 1
    · have e : tmW t = [pwL t.2.2.2] := by unfold tmW; rw [if_neg c, if_pos c2]
      rw [e]
      have yx : gStarts "x" (.dat (.str (ofL (pwL t.2.2.2)))) = okM (.dat (.bool true)) := by rw [hpr]; exact starts_pre (b := [120]) xs1 pr
      refine ev_sifF (ev_andT (ev_fB (ev_f2 (ev_call rfl rfl) rfl (gEq_int _ _)) rfl) (ev_notF (ev_fB (ev_fU (ev_f2 rfl rfl (ix_lst (j := 0) rfl rfl)) yx) rfl))) (ev_snext ?_)
      refine ev_sifT (ev_fB (ev_f2 (ev_call rfl rfl) rfl (gEq_int _ _)) rfl) ?_
      refine ev_sret (ev_call (ev_cons (ev_call (ev_cons (ev_f2 rfl rfl (ix_lst (j := 0) rfl rfl)) rfl) (ev_gF rfl rfl e2 rfl)) (ev_cons rfl rfl)) rfl) ?_
      have : nD (tmV t) = .tuple [.int 1, .int 1] := by
        unfold tmV
        rw [c2.1, c2.2]
        show nD (Rat.divInt 1 1) = _
        rw [show Rat.divInt 1 1 = 1 by decide +kernel]; rfl
      rw [this]; rfl
    · have e : tmW t = [rsL t.2.1 t.2.2.1, pwL t.2.2.2] := by unfold tmW; rw [if_neg c, if_neg c2]
      rw [e]
      refine ev_sifF (ev_andF (ev_fB (ev_f2 (ev_call rfl rfl) rfl (gEq_int _ _)) rfl)) (ev_snext ?_)
      refine ev_sifF (ev_fB (ev_f2 (ev_call rfl rfl) rfl (gEq_int _ _)) rfl) (ev_snext ?_)
      refine ev_sifT (ev_fB (ev_f2 (ev_call rfl rfl) rfl (gEq_int _ _)) rfl) ?_
      exact ev_sret (ev_call (ev_cons (ev_call (ev_cons (ev_f2 rfl rfl (ix_lst (j := 1) rfl rfl)) rfl) (ev_gF rfl rfl e2 rfl)) (ev_cons (ev_call (ev_cons (ev_f2 rfl rfl (ix_lst (j := 0) rfl rfl)) rfl) (ev_gF rfl rfl e1 (outZ_num _))) rfl)) rfl) rfl
/-! the words in groups -/
theorem nt_test (δ : List Sl) (w : List Nat) (hw : ∀ c ∈ w, c ≤ 120) (h3 : δ[3]? = some (.dat (.str (ofL w)))) : (fB (f2 (D3.gIn false) (fVar 3) (fCall D3.gTup (fCons (fC (.str "+")) (fCons (fC (.str "-")) fNil))))) δ = okM (decide (w = [43]) || decide (w = [45])) := by
  have sw : SOk (ofL w) := sok_ofL fun c hc => by have := hw c hc; omega
  have ok2 : okD (.list [.str "+", .str "-"]) = true := by decide +kernel
  have hv : fVar 3 δ = okM (.dat (.str (ofL w))) := by unfold fVar; rw [h3]
  have inj : ∀ v : List Nat, PyData.eqv (.str (ofL v)) (.str (ofL w)) = decide (w = v) := fun v => by
    rw [eqv_str]
    exact decide_eq_decide.mpr ⟨fun z => by have := congrArg cpl z; rw [cpl_ofL, cpl_ofL] at this; exact this.symm, fun z => by rw [z]⟩
  refine ev_fB (x := .dat (.bool (decide (w = [43]) || decide (w = [45])))) (ev_f2 hv (y := .dat (.tuple [.str "+", .str "-"])) rfl ?_) rfl
  unfold D3.gIn Rz.d?
  dsimp only
  rw [if_pos ⟨okD_str sw, ok2⟩, plus1, dash]
  simp only [List.any_cons, List.any_nil, inj, Bool.or_false]
  rfl
def grpS (t : Tm) : List Str := ofL [sgC t] :: (tmW t).map ofL
theorem nest_words (ft : List Sl → M Bool) (δ : List Sl) (ht : ∀ w : List Nat, (∀ c ∈ w, c ≤ 120) → ft (δ.set 3 (.dat (.str (ofL w)))) = okM (decide (w = [43]) || decide (w = [45]))) (rest : List PyData) :
    ∀ (W : List (List Nat)), (∀ w ∈ W, w ≠ [] ∧ ∀ c ∈ w, 47 ≤ c ∧ c ≤ 120) → ∀ (gs : List (List Str)) (cur : List Str), nestN ft 3 δ gs cur ((W.map fun w => PyData.str (ofL w)) ++ rest) = nestN ft 3 δ gs (cur ++ W.map ofL) rest
  | [], _, gs, cur => by simp
  | w :: W, h, gs, cur => by
    obtain ⟨h1, h2⟩ := h w (List.mem_cons_self ..)
    have n1 : w ≠ [43] := fun z => by have := h2 43 (by rw [z]; simp); omega
    have n2 : w ≠ [45] := fun z => by have := h2 45 (by rw [z]; simp); omega
    rw [List.map_cons, List.cons_append]
    conv => lhs; unfold nestN
    rw [ht w (fun c hc => (h2 c hc).2), decide_eq_false n1, decide_eq_false n2]
    show nestN ft 3 δ gs (cur ++ [ofL w]) _ = _
    rw [nest_words ft δ ht rest W (fun w hw => h w (List.mem_cons_of_mem _ hw)) gs (cur ++ [ofL w])]
    simp
theorem nest_terms (ft : List Sl → M Bool) (δ : List Sl) (ht : ∀ w : List Nat, (∀ c ∈ w, c ≤ 120) → ft (δ.set 3 (.dat (.str (ofL w)))) = okM (decide (w = [43]) || decide (w = [45]))) :
    ∀ (r : List Tm) (gs : List (List Str)) (cur : List Str), nestN ft 3 δ gs cur ((r.flatMap fun t => [sgC t] :: tmW t).map fun w => PyData.str (ofL w)) = some (gs ++ [cur] ++ r.map grpS)
  | [], gs, cur => by simp [nestN]
  | t :: r, gs, cur => by
    have hs : sgC t = 43 ∨ sgC t = 45 := by unfold sgC; split <;> simp
    rw [List.flatMap_cons, List.map_append, List.map_cons, List.cons_append]
    conv => lhs; unfold nestN
    rw [ht [sgC t] (fun c hc => by rw [List.mem_singleton] at hc; rcases hs with e | e <;> omega)]
    have e1 : (decide ([sgC t] = [43]) || decide ([sgC t] = [45])) = true := by rcases hs with e | e <;> rw [e] <;> rfl
    rw [e1]
    show nestN ft 3 δ (gs ++ [cur]) [ofL [sgC t]] _ = _
    rw [nest_words ft δ ht _ (tmW t) (tmW_all t), nest_terms ft δ ht r]
    simp [grpS]
theorem P_terms_in (t0 : Tm) (r : List Tm) (hk : ∀ t ∈ t0 :: r, Tk t) (h13 : (t0 :: r).length ≤ 13) : F_terms_in [.str (ofL (txA (t0 :: r)))] = okM (.newls (nsD ((t0 :: r).map grpS))) := by
  have sl : (sizeLine : Nat) = 16777216 := rfl
  refine ev_fn rfl ?_
  show B_terms_in [.dat (.str (ofL (txA (t0 :: r)))), .no, .no, .no] = _
  unfold B_terms_in
  have len1 := tx_len _ hk
  have len2 := Nat.mul_le_mul_right 40 h13
  rw [txA_glue] at len1 ⊢
  rw [List.length_append] at len1
  have hW := allW_all (t0 :: r)
  have hne := allW_ne (t0 :: r) (by simp)
  have hd : (glue (allW (t0 :: r))).head? ≠ some 45 := by
    have h0 := tmW_ne t0
    cases e : tmW t0 with
    | nil => exact absurd e h0
    | cons w v =>
      have h1 := tmW_all t0 w (by rw [e]; simp)
      have e2 : allW (t0 :: r) = w :: (v ++ r.flatMap fun t => [sgC t] :: tmW t) := by show tmW t0 ++ _ = _; rw [e]; rfl
      rw [e2, glue_head h1.1]
      intro z
      have := h1.2 45 (List.mem_of_mem_head? z)
      omega
  refine ev_sset (ev_call rfl (ev_gF rfl rfl (P_sign_and_rest t0 (glue (allW (t0 :: r))) hd (by omega)) (outZ_two _ _))) rfl (by walk_at "ss") ?_
  have spl := split_glue (allW (t0 :: r)) hne fun w hw z => by have := (hW w hw).2 32 z; omega
  have e0 : allW (t0 :: r) = tmW t0 ++ r.flatMap fun t => [sgC t] :: tmW t := rfl
  obtain ⟨W, hWd⟩ : ∃ W, W = allW (t0 :: r) := ⟨_, rfl⟩
  have wl : W.length ≤ 1000 := by
    have h1 := PyProof.Rows.split_le (ofL (glue W)) " "
    rw [hWd, spl, List.length_map, ofL_len] at h1
    rw [hWd]; omega
  obtain ⟨δ0, hδ⟩ : ∃ δ0 : List Sl, δ0 = [.dat (.str (ofL (sgH t0 ++ glue (allW (t0 :: r))))), .dat (.tuple [.str (ofL [sgC t0]), .str (ofL (glue (allW (t0 :: r))))]), .no, .no] := ⟨_, rfl⟩
  have hsp : (fI itemsL (fU (gSplit " ") (f2 gIx (fVar 1) (fC (.int 1))))) δ0 = okM (W.map fun w => PyData.str (ofL w)) := by
    rw [hδ]
    refine ev_fI (ev_fU (ev_f2 rfl rfl ix_t1) (z := .new (W.map fun w => PyData.str (ofL w))) ?_) rfl
    unfold gSplit Rz.d?
    dsimp only
    rw [if_pos ⟨by decide +kernel, by rw [ofL_len]; omega⟩, spl, hWd, List.map_map]; rfl
  have hn : nestN (fB (f2 (D3.gIn false) (fVar 3) (fCall D3.gTup (fCons (fC (.str "+")) (fCons (fC (.str "-")) fNil))))) 3 δ0 [] [ofL [sgC t0]] (W.map fun w => PyData.str (ofL w)) = some ((t0 :: r).map grpS) := by
    have ht : ∀ w : List Nat, (∀ c ∈ w, c ≤ 120) → (fB (f2 (D3.gIn false) (fVar 3) (fCall D3.gTup (fCons (fC (.str "+")) (fCons (fC (.str "-")) fNil))))) (δ0.set 3 (.dat (.str (ofL w)))) = okM (decide (w = [43]) || decide (w = [45])) := fun w hw => nt_test _ w hw (by rw [hδ]; rfl)
    rw [hWd, e0, List.map_append, nest_words _ _ ht _ (tmW t0) (tmW_all t0), nest_terms _ _ ht]
    simp [grpS]
  have hset : δ0.set 2 .no = δ0 := by rw [hδ]; rfl
  unfold fNest
  rw [← hδ, show (f2 gIx (fVar 1) (fC (.int 0))) δ0 = okM (.dat (.str (ofL [sgC t0]))) by rw [hδ]; exact ev_f2 rfl rfl ix_t0]
  show bS ((fI itemsL (fU (gSplit " ") (f2 gIx (fVar 1) (fC (.int 1))))) (δ0.set 2 .no)) _ = _
  rw [hset, hsp]
  show (if (W.map fun w => PyData.str (ofL w)).length + 2 < sizeLine ∧ 2 < δ0.length ∧ 3 < δ0.length then _ else _) = _
  rw [if_pos ⟨by rw [List.length_map]; omega, by rw [hδ]; show 2 < 4; decide, by rw [hδ]; show 3 < 4; decide⟩]
  show (match nestN (fB (f2 (D3.gIn false) (fVar 3) (fCall D3.gTup (fCons (fC (.str "+")) (fCons (fC (.str "-")) fNil))))) 3 δ0 [] [ofL [sgC t0]] (W.map fun w => PyData.str (ofL w)) with | some gs => some (Fl.ret (.newls (nsD gs))) | none => none) = _
  rw [hn]
/-! a curve read -/
def sgV (t : Tm) : Rat := if t.1 = true then 0 - tmV t else tmV t
def putT (N : List Rat) (t : Tm) : List Rat := N.set t.2.2.2 (sgV t)
theorem sz_tm {t : Tm} (h : Tk t) : NB.Sz 100 (tmV t) := by
  have l40 : (10 : Nat) ^ 12 < 2 ^ 100 := by decide +kernel
  exact NB.Sz.divInt (by have := h.2.2.1; omega) (by rw [Int.natAbs_natCast]; exact Nat.lt_trans h.1 l40) (by rw [Int.natAbs_natCast]; exact Nat.lt_trans h.2.1 l40)
theorem rd_turn (a : Str) (N : List Rat) (t : Tm) (h : Tk t) (hN : N.length = 13) (r3 r4 : Sl) : (fSeq (fSet 4 (fCall (gF 1 F_term_in) (fCons (fSl gSlL (fVar 2) (fPart (fC (.int 1))) fNoP) fNil)))
    (fPut 1 (fCall (gF 2 F_signed) (fCons (f2 gIx (fVar 2) (fC (.int 0))) (fCons (f2 gIx (fVar 4) (fC (.int 1))) fNil))) (f2 gIx (fVar 4) (fC (.int 0))))) [.dat (.str a), .own (N.map nD), .dat (.list ((grpS t).map PyData.str)), r3, r4] = some (.next [.dat (.str a), .own ((putT N t).map nD), .dat (.list ((grpS t).map PyData.str)), r3, .dat (.tuple [.int (t.2.2.2 : Int), nD (tmV t)])]) := by
  have hs : (fSl gSlL (fVar 2) (fPart (fC (.int 1))) fNoP) [.dat (.str a), .own (N.map nD), .dat (.list ((grpS t).map PyData.str)), r3, r4] = okM (.new ((tmW t).map fun w => .str (ofL w))) := by
    show okM (Rz.new (cutD ((grpS t).map PyData.str) (some 1) none)) = _
    have : cutD ((grpS t).map PyData.str) (some 1) none = (tmW t).map fun w => .str (ofL w) := by
      have e : (grpS t).map PyData.str = .str (ofL [sgC t]) :: (tmW t).map fun w => .str (ofL w) := by unfold grpS; rw [List.map_cons, List.map_map]; rfl
      rw [e]
      unfold cutD HT.sIx
      dsimp only
      rw [if_neg (by decide)]
      have e1 : min (1 : Int).toNat (PyData.str (ofL [sgC t]) :: (tmW t).map fun w => PyData.str (ofL w)).length = 1 := by rw [List.length_cons]; show min 1 _ = 1; omega
      first
        | (rw [e1, List.drop_succ_cons, List.drop_zero, List.length_cons]; exact List.take_of_length_le (by omega))
        | (simp)
    rw [this]
  have ht := P_term_in h
  refine ev_sset (x := .dat (.tuple [.int (t.2.2.2 : Int), nD (tmV t)])) (ev_call (ev_cons hs rfl) (ev_gF rfl rfl ht (outZ_kt _ _))) rfl (by walk_at "ss") ?_
  have hsg := P_signed t (tmV t) (sz_tm h)
  refine ev_put (d := nD (sgV t)) (ds := N.map nD) (j := t.2.2.2) (y := .dat (.int (t.2.2.2 : Int))) (i := (t.2.2.2 : Int)) (ev_call (ev_cons (ev_f2 rfl rfl (ix_lst (j := 0) rfl rfl)) (ev_cons (ev_f2 rfl rfl ix_t1) rfl)) (ev_gF rfl rfl hsg (outZ_num _))) rfl (ev_f2 rfl rfl ix_t0) rfl rfl (ixN_nat rfl (by rw [List.length_map, hN]; have := h.2.2.2; omega)) ?_
  unfold putT
  rw [List.map_set]; rfl
theorem rd_loop (a : Str) (A : List Tm) (hk : ∀ t ∈ A, Tk t) (N : List Rat) (hN : N.length = 13) : ∃ r2 r4 : Sl, forN (tName 2) (fSeq (fSet 4 (fCall (gF 1 F_term_in) (fCons (fSl gSlL (fVar 2) (fPart (fC (.int 1))) fNoP) fNil)))
    (fPut 1 (fCall (gF 2 F_signed) (fCons (f2 gIx (fVar 2) (fC (.int 0))) (fCons (f2 gIx (fVar 4) (fC (.int 1))) fNil))) (f2 gIx (fVar 4) (fC (.int 0))))) (nsD (A.map grpS)) [.dat (.str a), .own (N.map nD), .no, .no, .no] = some (.next [.dat (.str a), .own ((A.foldl putT N).map nD), r2, .no, r4]) := by
  obtain ⟨δ', e, r2, r4, rfl, _⟩ := forN_inv (g := tName 2) (b := (fSeq (fSet 4 (fCall (gF 1 F_term_in) (fCons (fSl gSlL (fVar 2) (fPart (fC (.int 1))) fNoP) fNil)))
    (fPut 1 (fCall (gF 2 F_signed) (fCons (f2 gIx (fVar 2) (fC (.int 0))) (fCons (f2 gIx (fVar 4) (fC (.int 1))) fNil))) (f2 gIx (fVar 4) (fC (.int 0)))))) (δ := [.dat (.str a), .own (N.map nD), .no, .no, .no])
    (fun i δ => ∃ r2 r4 : Sl, δ = [.dat (.str a), .own (((A.take i).foldl putT N).map nD), r2, .no, r4] ∧ ((A.take i).foldl putT N).length = 13) (nsD (A.map grpS)) ⟨.no, .no, rfl, hN⟩
    (by
      rintro i d δ hd ⟨r2, r4, rfl, hl⟩
      unfold nsD at hd
      rw [List.getElem?_map, List.getElem?_map, Option.map_map, Option.map_eq_some_iff] at hd
      obtain ⟨t, ht, rfl⟩ := hd
      have e1 : A.take (i + 1) = A.take i ++ [t] := by rw [List.take_succ, ht]; rfl
      refine ⟨_, _, rfl, .inl (rd_turn a _ t (hk t (List.mem_of_getElem? ht)) hl .no r4), .dat (.list ((grpS t).map PyData.str)), .dat (.tuple [.int (t.2.2.2 : Int), nD (tmV t)]), ?_, ?_⟩
      · rw [e1, List.foldl_append]; rfl
      · rw [e1, List.foldl_append]
        show (putT _ t).length = 13
        unfold putT; rw [List.length_set]; exact hl)
  have e2 : (nsD (A.map grpS)).length = A.length := by unfold nsD; rw [List.length_map, List.length_map]
  rw [e2, List.take_length] at e
  exact ⟨r2, r4, e⟩
theorem sgV_q {q : Rat} (k : Nat) : sgV (tmQ q k) = q := by
  unfold sgV tmV tmQ
  dsimp only
  have e := Rat.num_divInt_den q
  by_cases c : q < 0
  · have cn := (num_neg q).mpr c
    rw [decide_eq_true c, if_pos rfl]
    have e1 : (q.num.natAbs : Int) = - q.num := by omega
    rw [e1, ← Rat.neg_divInt, e]; grind
  · have cn : ¬ q.num < 0 := fun z => c ((num_neg q).mp z)
    rw [decide_eq_false c, if_neg (by exact Bool.false_ne_true)]
    have e1 : (q.num.natAbs : Int) = q.num := by omega
    rw [e1, e]
theorem put_all : ∀ (l : List Rat) (pre : List Rat) (m : Nat), (tsF pre.length l).foldl putT (pre ++ List.replicate (l.length + m) 0) = pre ++ l ++ List.replicate m 0
  | [], pre, m => by simp [tsF]
  | q :: l, pre, m => by
    have ih := put_all l (pre ++ [q]) m
    rw [List.length_append, List.length_singleton] at ih
    have e : (q :: l).length + m = (l.length + m) + 1 := by rw [List.length_cons]; omega
    rw [e, List.replicate_succ]
    unfold tsF
    by_cases c : q = 0
    · rw [if_pos c]
      subst c
      simp only [List.append_assoc, List.singleton_append] at ih
      rw [ih]; simp
    · rw [if_neg c, List.foldl_cons]
      have e2 : putT (pre ++ 0 :: List.replicate (l.length + m) 0) (tmQ q pre.length) = pre ++ [q] ++ List.replicate (l.length + m) 0 := by
        unfold putT
        rw [sgV_q]
        show (pre ++ 0 :: List.replicate (l.length + m) 0).set pre.length q = _
        rw [List.set_append_right _ _ (Nat.le_refl _), Nat.sub_self]
        simp
      rw [e2, ih]; simp
theorem tsF_zero : ∀ (k : Nat) (l : List Rat), tsF k l = [] → ∀ q ∈ l, q = 0
  | _, [], _, q, h => by cases h
  | k, p :: l, e, q, h => by
    unfold tsF at e
    split at e
    · rename_i c
      rcases List.mem_cons.mp h with rfl | h
      · exact c
      · exact tsF_zero (k + 1) l e q h
    · cases e
theorem P_read_curve (l : List Rat) (hl : ∀ q ∈ l, Bd q) (h13 : l.length ≤ 13) (ht : trim l = l) : F_read_curve [.str (ofL (txF l))] = okM (.val (cD l)) := by
  have sl : (sizeLine : Nat) = 16777216 := rfl
  refine ev_fn rfl ?_
  show B_read_curve [.dat (.str (ofL (txF l))), .no, .no, .no, .no] = _
  unfold B_read_curve
  refine ev_seq (ev_drop (ev_call rfl (ev_gF rfl rfl (P_check_text _) rfl))) ?_
  refine ev_sset (x := .new ((List.replicate 13 (0 : Rat)).map nD)) (ev_f2 (ev_call rfl rfl) rfl rfl) rfl (by walk_at "ss") ?_
  have hk : ∀ t ∈ tsR l, Tk t := by
    unfold tsR
    split
    · intro t h; rw [List.mem_singleton] at h; subst h; exact ⟨by decide, by decide, by decide, by decide⟩
    · exact tsF_ok 0 l hl (by omega)
  have hlen : (tsR l).length ≤ 13 := by
    unfold tsR
    split
    · simp
    · have := tsF_len 0 l; omega
  have hfold : trim ((tsR l).foldl putT (List.replicate 13 0)) = l := by
    have hp := put_all l [] (13 - l.length)
    have e1 : l.length + (13 - l.length) = 13 := by omega
    rw [List.length_nil, e1, List.nil_append, List.nil_append] at hp
    unfold tsR
    split
    · rename_i c
      have hz := tsF_zero 0 l c
      have l0 : l = [] := by
        rcases trim_last l with h | ⟨m, a, h1, h2⟩
        · rw [ht] at h; exact h
        · rw [ht] at h1
          exact absurd (hz a (by rw [h1]; simp)) h2
      rw [l0]
      decide +kernel
    · rw [hp, trim_zeros, ht]
  obtain ⟨t0, r, er⟩ : ∃ t0 r, tsR l = t0 :: r := by
    cases e : tsR l with
    | nil => exact absurd e (tsR_ne l)
    | cons t0 r => exact ⟨t0, r, rfl⟩
  have hti := P_terms_in t0 r (by rw [← er]; exact hk) (by rw [← er]; exact hlen)
  rw [← er, ← txF_R] at hti
  obtain ⟨r2, r4, el⟩ := rd_loop (ofL (txF l)) (tsR l) hk (List.replicate 13 0) (by simp)
  refine ev_seq (ev_for (ev_fI (ev_call rfl (ev_gF rfl rfl hti rfl)) rfl) el) ?_
  have hco := P_curve_of ((tsR l).foldl putT (List.replicate 13 0)) (by rw [hfold]; exact h13)
  rw [hfold] at hco
  refine ev_sset (ev_call rfl (ev_gF rfl rfl hco (outZ_cur _))) rfl (by walk_at "ss") ?_
  refine ev_seq (ev_drop (ev_call (ev_cons rfl (ev_cons (ev_call rfl (ev_gF rfl rfl (P_show_curve l hl h13) (outZ_str _))) rfl)) (ev_gF rfl rfl (P_check_written _ (sok_txF l)) rfl))) ?_
  exact ev_ret rfl rfl

theorem sg_at (c : Int) (h : 0 ≤ c) : ∃ s : Int, (s = 1 ∨ s = -1) ∧ gIx (.new [.int 1, .int (-1)]) (.dat (.int (c / 6 % 2))) = okM (.dat (.int s)) := by
  have : c / 6 % 2 = 0 ∨ c / 6 % 2 = 1 := by omega
  rcases this with e | e
  · rw [e]; exact ⟨1, .inl rfl, ix_new (j := 0) rfl rfl⟩
  · rw [e]; exact ⟨-1, .inr rfl, ix_new (j := 1) rfl rfl⟩
theorem zo_at (c : Int) : ∃ s : Int, (s = 0 ∨ s = 1) ∧ gIx (.new [.int 0, .int 1]) (.dat (.int (c % 2))) = okM (.dat (.int s)) := by
  have : c % 2 = 0 ∨ c % 2 = 1 := by omega
  rcases this with e | e
  · rw [e]; exact ⟨0, .inl rfl, ix_new (j := 0) rfl rfl⟩
  · rw [e]; exact ⟨1, .inr rfl, ix_new (j := 1) rfl rfl⟩
theorem L_number (ns : List Int) (k : Int) (h0 : 0 ≤ k) (h1 : k ≤ 10000) : ∃ q : Rat, Bd q ∧ F__law_number [scr ns, .int k] = okM (.val (nD q)) := by
  have c0 := mixF_nonneg ns k
  have c1 := mixF_lt ns k
  obtain ⟨s, hs, es⟩ := sg_at (mixF ns k) c0
  have pre : ∀ {r : Option Fl}, (fSeq (fIfS (fB (f2 (gI gLt) (fVar 3) (fC (.int 2)))) (fRet (fCall D3.gTup (fCons (fC (.int 0)) (fCons (fC (.int 1)) fNil)))) fNext)
    (fSeq (fIfS (fB (f2 (gEq false) (fVar 3) (fC (.int 2)))) (fRet (fCall D3.gTup (fCons (f2 gIx (fCall D3.gLst (fCons (fC (.int 1)) (fCons (fU negOf (fC (.int 1))) fNil))) (f2 (gI gMod) (f2 (gI gFdiv) (fVar 2) (fC (.int 6))) (fC (.int 2)))) (fCons (fC (.int 1)) fNil)))) fNext)
    (fSeq (fSet 4 (f2 (gI gAdd) (f2 (gI gMod) (f2 (gI gFdiv) (fVar 2) (fC (.int 12))) (fC (.int 9))) (fC (.int 1))))
    (fSeq (fSet 5 (f2 (gI gAdd) (f2 (gI gMod) (f2 (gI gFdiv) (fVar 2) (fC (.int 108))) (fC (.int 5))) (fC (.int 1))))
    (fSeq (fIfS (fB (f2 (gEq false) (fVar 3) (fC (.int 3)))) (fSeq (fSet 4 (f2 (gI D3.gSub) (f2 (gI D3.gSub) (f2 (gI gPow) (fC (.int 10)) (fC (.int 12))) (fC (.int 1))) (fCall (gF 2 F__law_mixed) (fCons (fVar 0) (fCons (f2 (gI gAdd) (fVar 1) (fC (.int 50))) fNil)))))
    (fSet 5 (f2 (gI D3.gSub) (f2 (gI D3.gSub) (f2 (gI gPow) (fC (.int 10)) (fC (.int 12))) (fC (.int 1))) (f2 (gI gMul) (fCall (gF 2 F__law_mixed) (fCons (fVar 0) (fCons (f2 (gI gAdd) (fVar 1) (fC (.int 70))) fNil))) (f2 gIx (fCall D3.gLst (fCons (fC (.int 0)) (fCons (fC (.int 1)) fNil))) (f2 (gI gMod) (f2 (gI gFdiv) (fVar 2) (fC (.int 600))) (fC (.int 2)))))))) fNext)
    (fSeq (fSet 6 (fCall (gF 2 F__law_divisor) (fCons (fVar 4) (fCons (fVar 5) fNil))))
    (fRet (fCall D3.gTup (fCons (f2 (gI gMul) (f2 gIx (fCall D3.gLst (fCons (fC (.int 1)) (fCons (fU negOf (fC (.int 1))) fNil))) (f2 (gI gMod) (f2 (gI gFdiv) (fVar 2) (fC (.int 6))) (fC (.int 2)))) (f2 (gI gFdiv) (fVar 4) (fVar 6))) (fCons (f2 (gI gFdiv) (fVar 5) (fVar 6)) fNil)))))))))) [.dat (scr ns), .dat (.int k), .dat (.int (mixF ns k)), .dat (.int (mixF ns k % 6)), .no, .no, .no] = r → B__law_number [.dat (scr ns), .dat (.int k), .no, .no, .no, .no, .no] = r := fun h => by
    unfold B__law_number
    refine ev_sset (ev_call (ev_cons rfl (ev_cons rfl rfl)) (ev_gF rfl rfl (F_mix ns k h0 (by omega)) rfl)) rfl (by walk_at "ss") ?_
    exact ev_sset (ev_f2 rfl rfl (gModP (by decide))) rfl (by walk_at "ss") h
  have i1 : fB (f2 (gI gLt) (fVar 3) (fC (.int 2))) [.dat (scr ns), .dat (.int k), .dat (.int (mixF ns k)), .dat (.int (mixF ns k % 6)), .no, .no, .no] = okM (decide (mixF ns k % 6 < 2)) := ev_fB (ev_f2 rfl rfl rfl) rfl
  have i2 : fB (f2 (gEq false) (fVar 3) (fC (.int 2))) [.dat (scr ns), .dat (.int k), .dat (.int (mixF ns k)), .dat (.int (mixF ns k % 6)), .no, .no, .no] = okM (decide (mixF ns k % 6 = 2)) := ev_fB (ev_f2 rfl rfl (gEq_int _ _)) rfl
  by_cases w1 : mixF ns k % 6 < 2
  · exact ⟨0, ⟨by decide, by decide⟩, ev_fn rfl (pre (ev_sifT (by rw [i1, decide_eq_true w1]) (ev_sret (ev_call rfl rfl) rfl)))⟩
  · by_cases w2 : mixF ns k % 6 = 2
    · refine ⟨(s : Rat), ?_, ev_fn rfl (pre (ev_sifF (by rw [i1, decide_eq_false w1]) (ev_snext (ev_sifT (by rw [i2, decide_eq_true w2]) (ev_sret (ev_call (ev_cons (ev_f2 (ev_call (ev_cons rfl (ev_cons (ev_fU rfl rfl) rfl)) rfl) (ev_f2 (ev_f2 rfl rfl (gFdivP (by decide) (by decide))) rfl (gModP (by decide))) es) (ev_cons rfl rfl)) rfl) rfl)))))⟩
      rcases hs with rfl | rfl <;> exact ⟨by decide, by decide⟩
    · obtain ⟨b0, hb0⟩ : ∃ b : Int, b = mixF ns k / 108 % 5 + 1 := ⟨_, rfl⟩
      obtain ⟨t0, ht0⟩ : ∃ t : Int, t = mixF ns k / 12 % 9 + 1 := ⟨_, rfl⟩
      have b1 : 1 ≤ b0 ∧ b0 ≤ 5 := by omega
      have t1 : 1 ≤ t0 ∧ t0 ≤ 9 := by omega
      have fin : ∀ t b : Int, 1 ≤ t → t < 10 ^ 12 → 1 ≤ b → b < 10 ^ 12 → ∃ q : Rat, Bd q ∧ (fSeq (fSet 6 (fCall (gF 2 F__law_divisor) (fCons (fVar 4) (fCons (fVar 5) fNil))))
    (fRet (fCall D3.gTup (fCons (f2 (gI gMul) (f2 gIx (fCall D3.gLst (fCons (fC (.int 1)) (fCons (fU negOf (fC (.int 1))) fNil))) (f2 (gI gMod) (f2 (gI gFdiv) (fVar 2) (fC (.int 6))) (fC (.int 2)))) (f2 (gI gFdiv) (fVar 4) (fVar 6))) (fCons (f2 (gI gFdiv) (fVar 5) (fVar 6)) fNil))))) [.dat (scr ns), .dat (.int k), .dat (.int (mixF ns k)), .dat (.int (mixF ns k % 6)), .dat (.int t), .dat (.int b), .no] = some (.ret (.val (nD q))) := fun t b t2 t3 b2 b3 => by
        obtain ⟨g0, e1, e2⟩ := NB.num_low t b (by omega) (Int.gcd t b : Int) (by rw [if_neg (by omega)])
        have gd : (Int.gcd t b : Int) ∣ b := Int.gcd_dvd_right t b
        have gp : (1 : Int) ≤ (Int.gcd t b : Int) := by omega
        have gl : (Int.gcd t b : Int) ≤ b := Int.le_of_dvd (by omega) gd
        have gs : (Int.gcd t b : Int).natAbs < 2 ^ 9000 := Nat.lt_of_lt_of_le (show (Int.gcd t b : Int).natAbs < 2 ^ 40 by omega) (Nat.pow_le_pow_right (by decide) (by decide))
        have y1 : t.fdiv (Int.gcd t b : Int) = t / (Int.gcd t b : Int) := Int.fdiv_eq_ediv_of_nonneg _ (by omega)
        have y2 : b.fdiv (Int.gcd t b : Int) = b / (Int.gcd t b : Int) := Int.fdiv_eq_ediv_of_nonneg _ (by omega)
        have w1 : 0 ≤ t / (Int.gcd t b : Int) := Int.ediv_nonneg (by omega) (by omega)
        have w2 : t / (Int.gcd t b : Int) ≤ t := Int.ediv_le_self _ (by omega)
        have w3 : b / (Int.gcd t b : Int) ≤ b := Int.ediv_le_self _ (by omega)
        obtain ⟨q0, hq0⟩ : ∃ q : Rat, q = Rat.divInt t b := ⟨_, rfl⟩
        rw [← hq0] at e1 e2
        have bd : Bd q0 := ⟨by omega, by omega⟩
        have run : ∀ q : Rat, nD q = .tuple [.int (s * q0.num), .int (q0.den : Int)] → (fSeq (fSet 6 (fCall (gF 2 F__law_divisor) (fCons (fVar 4) (fCons (fVar 5) fNil))))
    (fRet (fCall D3.gTup (fCons (f2 (gI gMul) (f2 gIx (fCall D3.gLst (fCons (fC (.int 1)) (fCons (fU negOf (fC (.int 1))) fNil))) (f2 (gI gMod) (f2 (gI gFdiv) (fVar 2) (fC (.int 6))) (fC (.int 2)))) (f2 (gI gFdiv) (fVar 4) (fVar 6))) (fCons (f2 (gI gFdiv) (fVar 5) (fVar 6)) fNil))))) [.dat (scr ns), .dat (.int k), .dat (.int (mixF ns k)), .dat (.int (mixF ns k % 6)), .dat (.int t), .dat (.int b), .no] = some (.ret (.val (nD q))) := fun q hq => by
          refine ev_sset (ev_call (ev_cons rfl (ev_cons rfl rfl)) (ev_gF rfl rfl (L_div t b) rfl)) rfl (by walk_at "ss") ?_
          refine ev_ret (ev_call (ev_cons (ev_f2 (ev_f2 (ev_call (ev_cons rfl (ev_cons (ev_fU rfl rfl) rfl)) rfl) (ev_f2 (ev_f2 rfl rfl (gFdivP (by decide) (by decide))) rfl (gModP (by decide))) es) (ev_f2 rfl rfl (gFdivI g0 gs)) (gMulI (mul_l (by rcases hs with rfl | rfl <;> decide) (by rcases hs with rfl | rfl <;> decide)))) (ev_cons (ev_f2 rfl rfl (gFdivI g0 gs)) rfl)) rfl) ?_
          rw [e1, e2, hq]; rfl
        rcases hs with hs1 | hs1
        · exact ⟨q0, bd, run q0 (by rw [hs1, Int.one_mul]; rfl)⟩
        · refine ⟨-q0, ⟨by rw [Rat.neg_num]; have := bd.1; omega, by rw [Rat.neg_den]; exact bd.2⟩, run (-q0) ?_⟩
          unfold nD
          rw [Rat.neg_num, Rat.neg_den, hs1]
          congr 3
          omega
      have mid : ∀ {r : Option Fl}, (fSeq (fIfS (fB (f2 (gEq false) (fVar 3) (fC (.int 3)))) (fSeq (fSet 4 (f2 (gI D3.gSub) (f2 (gI D3.gSub) (f2 (gI gPow) (fC (.int 10)) (fC (.int 12))) (fC (.int 1))) (fCall (gF 2 F__law_mixed) (fCons (fVar 0) (fCons (f2 (gI gAdd) (fVar 1) (fC (.int 50))) fNil)))))
    (fSet 5 (f2 (gI D3.gSub) (f2 (gI D3.gSub) (f2 (gI gPow) (fC (.int 10)) (fC (.int 12))) (fC (.int 1))) (f2 (gI gMul) (fCall (gF 2 F__law_mixed) (fCons (fVar 0) (fCons (f2 (gI gAdd) (fVar 1) (fC (.int 70))) fNil))) (f2 gIx (fCall D3.gLst (fCons (fC (.int 0)) (fCons (fC (.int 1)) fNil))) (f2 (gI gMod) (f2 (gI gFdiv) (fVar 2) (fC (.int 600))) (fC (.int 2)))))))) fNext)
    (fSeq (fSet 6 (fCall (gF 2 F__law_divisor) (fCons (fVar 4) (fCons (fVar 5) fNil))))
    (fRet (fCall D3.gTup (fCons (f2 (gI gMul) (f2 gIx (fCall D3.gLst (fCons (fC (.int 1)) (fCons (fU negOf (fC (.int 1))) fNil))) (f2 (gI gMod) (f2 (gI gFdiv) (fVar 2) (fC (.int 6))) (fC (.int 2)))) (f2 (gI gFdiv) (fVar 4) (fVar 6))) (fCons (f2 (gI gFdiv) (fVar 5) (fVar 6)) fNil)))))) [.dat (scr ns), .dat (.int k), .dat (.int (mixF ns k)), .dat (.int (mixF ns k % 6)), .dat (.int t0), .dat (.int b0), .no] = r → B__law_number [.dat (scr ns), .dat (.int k), .no, .no, .no, .no, .no] = r := fun h => pre (ev_sifF (by rw [i1, decide_eq_false w1]) (ev_snext (ev_sifF (by rw [i2, decide_eq_false w2]) (ev_snext (ev_sset (x := .dat (.int t0)) (ev_f2 (ev_f2 (ev_f2 rfl rfl (gFdivP (by decide) (by decide))) rfl (gModP (by decide))) rfl (by rw [ht0]; rfl)) rfl (by walk_at "ss") (ev_sset (x := .dat (.int b0)) (ev_f2 (ev_f2 (ev_f2 rfl rfl (gFdivP (by decide) (by decide))) rfl (gModP (by decide))) rfl (by rw [hb0]; rfl)) rfl (by walk_at "ss") h))))))
      have i3 : fB (f2 (gEq false) (fVar 3) (fC (.int 3))) [.dat (scr ns), .dat (.int k), .dat (.int (mixF ns k)), .dat (.int (mixF ns k % 6)), .dat (.int t0), .dat (.int b0), .no] = okM (decide (mixF ns k % 6 = 3)) := ev_fB (ev_f2 rfl rfl (gEq_int _ _)) rfl
      by_cases w3 : mixF ns k % 6 = 3
      · have m0 := mixF_nonneg ns (k + 50)
        have m1 := mixF_lt ns (k + 50)
        have n0 := mixF_nonneg ns (k + 70)
        have n1 := mixF_lt ns (k + 70)
        obtain ⟨z, hz, ez⟩ := zo_at (mixF ns k / 600)
        obtain ⟨t, ht⟩ : ∃ t : Int, t = 10 ^ (12 : Int).toNat - 1 - mixF ns (k + 50) := ⟨_, rfl⟩
        obtain ⟨b, hb⟩ : ∃ b : Int, b = 10 ^ (12 : Int).toNat - 1 - mixF ns (k + 70) * z := ⟨_, rfl⟩
        have e12 : (10 : Int) ^ (12 : Int).toNat = 1000000000000 := by decide
        rw [e12] at ht hb
        have t2 : 1 ≤ t ∧ t < 10 ^ 12 := by omega
        have b2 : 1 ≤ b ∧ b < 10 ^ 12 := by rcases hz with rfl | rfl <;> omega
        obtain ⟨q, hq, ep⟩ := fin t b t2.1 t2.2 b2.1 b2.2
        refine ⟨q, hq, ev_fn rfl (mid (ev_sifT (by rw [i3, decide_eq_true w3]) (ev_sseq (ev_sset (x := .dat (.int t)) (ev_f2 (ev_f2 (ev_f2 rfl rfl (gPowI ⟨by decide, by decide, by decide⟩)) rfl rfl) (ev_call (ev_cons rfl (ev_cons (ev_f2 rfl rfl rfl) rfl)) (ev_gF rfl rfl (F_mix ns (k + 50) (by omega) (by omega)) rfl)) (by rw [ht, ← e12]; rfl)) rfl (by walk_at "ss") (ev_sset (x := .dat (.int b)) (ev_f2 (ev_f2 (ev_f2 rfl rfl (gPowI ⟨by decide, by decide, by decide⟩)) rfl rfl) (ev_f2 (ev_call (ev_cons rfl (ev_cons (ev_f2 rfl rfl rfl) rfl)) (ev_gF rfl rfl (F_mix ns (k + 70) (by omega) (by omega)) rfl)) (ev_f2 (ev_call (ev_cons rfl (ev_cons rfl rfl)) rfl) (ev_f2 (ev_f2 rfl rfl (gFdivP (by decide) (by decide))) rfl (gModP (by decide))) ez) (gMulI (mul_l (by omega) (by omega)))) (by rw [hb, ← e12]; rfl)) rfl (by walk_at "ss") ep)))))⟩
      · obtain ⟨q, hq, ep⟩ := fin t0 b0 (by omega) (by omega) (by omega) (by omega)
        exact ⟨q, hq, ev_fn rfl (mid (ev_sifF (by rw [i3, decide_eq_false w3]) (ev_snext ep)))⟩
theorem ix_at {ds : List PyData} {i : Int} {d : PyData} (h : L2.atI ds i = some d) : gIx (.var ds) (.dat (.int i)) = okM (.dat d) := by
  unfold gIx seqOf Rz.d?; dsimp only; rw [h]; rfl
theorem at_last (r : List Rat) (a : Rat) : L2.atI ((r ++ [a]).map nD) (-1) = some (nD a) := by
  rw [List.map_append]
  unfold L2.atI
  have : L2.ixN (r.map nD ++ [a].map nD).length (-1) = some r.length := by
    unfold L2.ixN
    rw [List.length_append, List.length_map, List.length_map, List.length_singleton, if_neg (by omega), if_pos (by omega)]
    congr 1
    omega
  rw [this]
  show (r.map nD ++ [a].map nD)[r.length]? = some (nD a)
  rw [List.getElem?_append_right (by simp)]
  simp
theorem tx_lenF {l : List Rat} (hl : ∀ q ∈ l, Bd q) (h13 : l.length ≤ 13) : (ofL (txF l)).length ≤ 1000 := by
  unfold txF
  split
  · decide +kernel
  · have := tx_l hl h13 13
    rw [List.take_of_length_le h13] at this
    omega
theorem st_loop (x0 x1 : Sl) (l : List Rat) (hl : ∀ q ∈ l, Bd q) (h13 : l.length ≤ 13) : ∃ m : List Rat, m.length ≤ 13 ∧ (∀ q ∈ m, Bd q) ∧ trim m = m ∧ (fWh (fAnd (fB (f2 (gEq true) (fVar 2) (fCall D3.gLst fNil))) (fOr (fB (f2 (gEq false) (f2 gIx (f2 gIx (fVar 2) (fU negOf (fC (.int 1)))) (fC (.int 0))) (fC (.int 0)))) (fB (f2 (gI gGt) (fCall (g1 lenS) (fCons (fCall (gF 1 F__law_text) (fCons (fVar 2) fNil)) fNil)) (fC (.int 400)))))) (fPop 2)) [x0, x1, .own (l.map nD)] = some (.next [x0, x1, .own (m.map nD)]) := by
  have hne : ∀ l : List Rat, fB (f2 (gEq true) (fVar 2) (fCall D3.gLst fNil)) [x0, x1, .own (l.map nD)] = okM (!decide (l = [])) := fun l => by
    refine ev_fB (ev_f2 rfl (ev_call rfl rfl) (gNeD (d := lD l) (e := lD []) rfl rfl (okD_lD l) (okD_lD []) ?_)) rfl
    rw [eqv_lD, Bool.not_not]
  obtain ⟨δ', e, m, rfl, hm, h0, ht⟩ := whN_inv (c := (fAnd (fB (f2 (gEq true) (fVar 2) (fCall D3.gLst fNil))) (fOr (fB (f2 (gEq false) (f2 gIx (f2 gIx (fVar 2) (fU negOf (fC (.int 1)))) (fC (.int 0))) (fC (.int 0)))) (fB (f2 (gI gGt) (fCall (g1 lenS) (fCons (fCall (gF 1 F__law_text) (fCons (fVar 2) fNil)) fNil)) (fC (.int 400))))))) (b := fPop 2) (δ := [x0, x1, .own (l.map nD)])
    (fun δ => ∃ m : List Rat, δ = [x0, x1, .own (m.map nD)] ∧ m.length ≤ 13 ∧ ∀ q ∈ m, Bd q)
    (fun δ => ∃ m : List Rat, δ = [x0, x1, .own (m.map nD)] ∧ m.length ≤ 13 ∧ (∀ q ∈ m, Bd q) ∧ trim m = m)
    (fun δ => match δ with | [_, _, .own d] => d.length | _ => 0)
    (by
      rintro δ ⟨m, rfl, hm, hq⟩
      rcases List.eq_nil_or_concat m with rfl | ⟨r, a, rfl⟩
      · exact .inl ⟨ev_andF (by rw [hne]; rfl), [], rfl, hm, hq, rfl⟩
      · rw [List.concat_eq_append] at hm hq ⊢
        have hsec : fB (f2 (gEq false) (f2 gIx (f2 gIx (fVar 2) (fU negOf (fC (.int 1)))) (fC (.int 0))) (fC (.int 0))) [x0, x1, .own ((r ++ [a]).map nD)] = okM (decide (a.num = 0)) := ev_fB (ev_f2 (ev_f2 (x := .dat (nD a)) (ev_f2 rfl (ev_fU rfl rfl) (ix_at (at_last r a))) rfl ix_t0) rfl (gEq_int _ _)) rfl
        have hthd : fB (f2 (gI gGt) (fCall (g1 lenS) (fCons (fCall (gF 1 F__law_text) (fCons (fVar 2) fNil)) fNil)) (fC (.int 400))) [x0, x1, .own ((r ++ [a]).map nD)] = okM (decide (((ofL (txF (r ++ [a]))).length : Int) > 400)) := ev_fB (ev_f2 (ev_call (ev_cons (ev_call rfl (ev_gF (ds := [lD (r ++ [a])]) rfl rfl (L_text (r ++ [a]) hq hm) (outZ_str _))) rfl) (len_S (tx_lenF hq hm))) rfl rfl) rfl
        have hfst : fB (f2 (gEq true) (fVar 2) (fCall D3.gLst fNil)) [x0, x1, .own ((r ++ [a]).map nD)] = okM true := by
          rw [hne, decide_eq_false (by simp)]; rfl
        have hor := ev_or hsec (fun _ => hthd)
        cases hc : (decide (a.num = 0) || decide (((ofL (txF (r ++ [a]))).length : Int) > 400)) with
        | true =>
          rw [hc] at hor
          refine .inr ⟨ev_andT hfst hor, _, ev_pop rfl (by simp) rfl, ⟨r, ?_, by simp at hm; omega, fun p hp => hq p (List.mem_append_left _ hp)⟩, ?_⟩
          · simp [List.map_append, List.dropLast_concat]
          · simp [List.dropLast_concat]
        | false =>
          rw [hc] at hor
          refine .inl ⟨ev_andT hfst hor, r ++ [a], rfl, hm, hq, trim_snoc ?_⟩
          intro z
          rw [z] at hc
          simp at hc) ⟨l, rfl, h13, hl⟩
  exact ⟨m, hm, h0, ht, e⟩
theorem lc_nD (fe : List Sl → M Rz) (δ : List Sl) : ∀ (items : List PyData), (∀ d ∈ items, ∃ q, fe (.dat d :: δ) = okM (.dat (nD q)) ∧ Bd q) → ∃ l : List Rat, l.length = items.length ∧ (∀ q ∈ l, Bd q) ∧ lcN fTrue fe δ items = some (l.map nD)
  | [], _ => ⟨[], rfl, fun q h => (nomatch h), rfl⟩
  | d :: r, h => by
    obtain ⟨q, e, hq⟩ := h d (List.mem_cons_self ..)
    obtain ⟨l, h1, h2, h3⟩ := lc_nD fe δ r fun d hd => h d (List.mem_cons_of_mem _ hd)
    refine ⟨q :: l, by simp [h1], fun p hp => ?_, ?_⟩
    · rcases List.mem_cons.mp hp with rfl | hp
      · exact hq
      · exact h2 p hp
    · unfold lcN
      show (match fe (.dat d :: δ) with | some (.ok z) => (match datOf z, lcN fTrue fe δ r with | some e, some es => some (e :: es) | _, _ => none) | _ => none) = _
      rw [e]
      show (match some (nD q), lcN fTrue fe δ r with | some e, some es => some (e :: es) | _, _ => none) = _
      rw [h3]; rfl
theorem range_mem' {lo : Int} {m : Nat} {d : PyData} (h : d ∈ rangeL lo m) : ∃ i : Nat, i < m ∧ d = .int (lo + (i : Int)) := by
  obtain ⟨i, hi⟩ := List.getElem?_of_mem h
  obtain ⟨h1, h2⟩ := range_at hi
  exact ⟨i, h1, h2⟩
theorem L_curve (ns : List Int) (k : Int) (h0 : 0 ≤ k) (h1 : k ≤ 1000) : ∃ l : List Rat, l.length ≤ 13 ∧ (∀ q ∈ l, Bd q) ∧ trim l = l ∧ F__law_curve [scr ns, .int k] = okM (.val (cD l)) := by
  have sl : (sizeLine : Nat) = 16777216 := rfl
  have m0 := Int.emod_nonneg (mixF ns (k + 30)) (b := 14) (by decide)
  have m1 := Int.emod_lt_of_pos (mixF ns (k + 30)) (b := 14) (by decide)
  obtain ⟨n, hn⟩ : ∃ n : Nat, (n : Int) = mixF ns (k + 30) % 14 := ⟨(mixF ns (k + 30) % 14).toNat, by omega⟩
  obtain ⟨l, e1, e2, e3⟩ := lc_nD (fCall (gF 2 F__law_number) (fCons (fVar 1) (fCons (f2 (gI gAdd) (fVar 2) (fVar 0)) fNil))) [.dat (scr ns), .dat (.int k), .no] (rangeL 0 n) (fun d hd => by
    obtain ⟨i, hi, rfl⟩ := range_mem' hd
    obtain ⟨p, hp, ep⟩ := L_number ns (k + (0 + (i : Int))) (by omega) (by omega)
    exact ⟨p, ev_call (ev_cons rfl (ev_cons (ev_f2 rfl rfl rfl) rfl)) (ev_gF rfl rfl ep (outZ_num p)), hp⟩)
  rw [range_len] at e1
  have hLC : (fLC (fR rng1 (fCons (f2 (gI gMod) (fCall (gF 2 F__law_mixed) (fCons (fVar 0) (fCons (f2 (gI gAdd) (fVar 1) (fC (.int 30))) fNil))) (fC (.int 14))) fNil)) fTrue (fCall (gF 2 F__law_number) (fCons (fVar 1) (fCons (f2 (gI gAdd) (fVar 2) (fVar 0)) fNil)))) [.dat (scr ns), .dat (.int k), .no] = okM (.new (l.map nD)) := by
    have hr : (fR rng1 (fCons (f2 (gI gMod) (fCall (gF 2 F__law_mixed) (fCons (fVar 0) (fCons (f2 (gI gAdd) (fVar 1) (fC (.int 30))) fNil))) (fC (.int 14))) fNil)) [.dat (scr ns), .dat (.int k), .no] = okM (rangeL 0 n) := by
      refine ev_rng1 (m := n) (j := (n : Int)) (ev_cons (x := .dat (.int (n : Int))) (ev_f2 (ev_call (ev_cons rfl (ev_cons (ev_f2 rfl rfl rfl) rfl)) (ev_gF rfl rfl (F_mix ns (k + 30) (by omega) (by omega)) rfl)) rfl ?_) rfl) (by omega) (by omega) (by omega)
      rw [hn]; exact gModP (by decide)
    unfold fLC
    rw [hr, bnd_okM, if_pos (by rw [range_len]; omega), e3]
  have fin : ∀ l : List Rat, (∀ q ∈ l, Bd q) → l.length ≤ 13 → ∃ m : List Rat, m.length ≤ 13 ∧ (∀ q ∈ m, Bd q) ∧ trim m = m ∧ (fSeq (fWh (fAnd (fB (f2 (gEq true) (fVar 2) (fCall D3.gLst fNil))) (fOr (fB (f2 (gEq false) (f2 gIx (f2 gIx (fVar 2) (fU negOf (fC (.int 1)))) (fC (.int 0))) (fC (.int 0)))) (fB (f2 (gI gGt) (fCall (g1 lenS) (fCons (fCall (gF 1 F__law_text) (fCons (fVar 2) fNil)) fNil)) (fC (.int 400)))))) (fPop 2))
    (fRet (fCall (g1 tupleOf) (fCons (fVar 2) fNil)))) [.dat (scr ns), .dat (.int k), .own (l.map nD)] = some (.ret (.val (cD m))) := fun l hb hl => by
    obtain ⟨m, a1, a2, a3, a4⟩ := st_loop (.dat (scr ns)) (.dat (.int k)) l hb hl
    exact ⟨m, a1, a2, a3, ev_seq a4 (ev_ret (ev_call rfl rfl) rfl)⟩
  have llen : g1 lenOf [Rz.var (l.map nD)] = okM (.dat (.int (l.length : Int))) := by
    show okM (Rz.dat (PyData.int ((l.map nD).length : Int))) = _
    rw [List.length_map]
  have hif : fAnd (fB (f2 (gI gGt) (fCall (g1 lenOf) (fCons (fVar 2) fNil)) (fC (.int 0)))) (fB (f2 (gEq false) (f2 (gI gMod) (fCall (gF 2 F__law_mixed) (fCons (fVar 0) (fCons (f2 (gI gAdd) (fVar 1) (fC (.int 31))) fNil))) (fC (.int 5))) (fC (.int 0)))) [.dat (scr ns), .dat (.int k), .own (l.map nD)] = okM (decide ((l.length : Int) > 0) && decide (mixF ns (k + 31) % 5 = 0)) :=
    ev_and (ev_fB (ev_f2 (ev_call rfl llen) rfl rfl) rfl) fun _ => ev_fB (ev_f2 (ev_f2 (ev_call (ev_cons rfl (ev_cons (ev_f2 rfl rfl rfl) rfl)) (ev_gF rfl rfl (F_mix ns (k + 31) (by omega) (by omega)) rfl)) rfl (gModP (by decide))) rfl (gEq_int _ _)) rfl
  cases hc : (decide ((l.length : Int) > 0) && decide (mixF ns (k + 31) % 5 = 0)) with
  | false =>
    obtain ⟨m, a1, a2, a3, a4⟩ := fin l e2 (by omega)
    refine ⟨m, a1, a2, a3, ev_fn rfl ?_⟩
    show B__law_curve [.dat (scr ns), .dat (.int k), .no] = _
    unfold B__law_curve
    refine ev_sset hLC rfl (by walk_at "ss") ?_
    exact ev_sifF (by rw [hif, hc]) (ev_snext a4)
  | true =>
    have lne : l ≠ [] := fun z => by rw [z] at hc; simp at hc
    obtain ⟨r, a, rfl⟩ : ∃ r a, l = r ++ [a] := ⟨l.dropLast, l.getLast lne, (List.dropLast_concat_getLast lne).symm⟩
    have b0 : Bd 0 := ⟨by decide, by decide⟩
    have hb2 : ∀ q ∈ List.replicate r.length 0 ++ [a], Bd q := fun q hq => by
      rcases List.mem_append.mp hq with hq | hq
      · rw [(List.mem_replicate.mp hq).2]; exact b0
      · rw [List.mem_singleton] at hq; subst hq; exact e2 _ (by simp)
    obtain ⟨m, a1, a2, a3, a4⟩ := fin (List.replicate r.length 0 ++ [a]) hb2 (by rw [List.length_append] at e1 ⊢; rw [List.length_replicate]; omega)
    refine ⟨m, a1, a2, a3, ev_fn rfl ?_⟩
    show B__law_curve [.dat (scr ns), .dat (.int k), .no] = _
    unfold B__law_curve
    refine ev_sset hLC rfl (by walk_at "ss") ?_
    refine ev_sifT (by rw [hif, hc]) ?_
    have hcut : (fSl gSlL (fVar 2) (fPart (fU negOf (fC (.int 1)))) fNoP) [.dat (scr ns), .dat (.int k), .own ((r ++ [a]).map nD)] = okM (.new [nD a]) := by
      show okM (Rz.new (cutD ((r ++ [a]).map nD) (some (-1)) none)) = _
      have : cutD ((r ++ [a]).map nD) (some (-1)) none = [nD a] := by
        have e1 : ((r ++ [a]).map nD).length = r.length + 1 := by simp
        have e2 : HT.sIx (r.length + 1) 0 (some (-1)) = r.length := by
          unfold HT.sIx
          dsimp only
          rw [if_pos (by decide)]
          omega
        have e3 : HT.sIx (r.length + 1) (r.length + 1) none = r.length + 1 := rfl
        unfold cutD
        rw [e1, e2, e3, List.map_append, List.drop_append, List.length_map, Nat.sub_self, List.drop_of_length_le (by rw [List.length_map]; exact Nat.le_refl _)]
        have e4 : r.length + 1 - r.length = 1 := by omega
        rw [e4]; rfl
      rw [this]
    have hrep : (f2 gRep (fCall D3.gLst (fCons (fCall D3.gTup (fCons (fC (.int 0)) (fCons (fC (.int 1)) fNil))) fNil)) (f2 (gI D3.gSub) (fCall (g1 lenOf) (fCons (fVar 2) fNil)) (fC (.int 1)))) [.dat (scr ns), .dat (.int k), .own ((r ++ [a]).map nD)] = okM (.new ((List.replicate r.length (0 : Rat)).map nD)) := by
      have := rep_nD r.length (by rw [List.length_append] at e1; simp at e1; omega)
      refine ev_f2 (ev_call (ev_cons (ev_call (ev_cons rfl (ev_cons rfl rfl)) rfl) rfl) rfl) (ev_f2 (ev_call rfl llen) rfl (z := .dat (.int (r.length : Int))) ?_) this
      have e5 : ((r ++ [a]).length : Int) - 1 = (r.length : Int) := by rw [List.length_append, List.length_singleton]; omega
      show okM (Rz.dat (PyData.int (((r ++ [a]).length : Int) - 1))) = _
      rw [e5]
    refine ev_sset (x := .new ((List.replicate r.length 0 ++ [a]).map nD)) (ev_f2 hrep hcut ?_) rfl (by walk_at "ss") a4
    unfold gCat ownOf
    dsimp only
    rw [if_pos (by rw [List.length_map, List.length_replicate]; rw [List.length_append] at e1; simp at e1 ⊢; omega), List.map_append]; rfl
theorem L_right (l : List Rat) (hl : ∀ q ∈ l, Bd q) (h13 : l.length ≤ 13) (ht : trim l = l) : F__law_right [cD l] = okM (.val (.bool true)) := by
  refine ev_fn rfl ?_
  show B__law_right [.dat (cD l), .no, .no] = _
  unfold B__law_right
  refine ev_sset (x := .dat (cD l)) (ev_call (ev_cons (ev_call rfl (ev_gF rfl rfl (L_textT l hl h13) (outZ_str _))) rfl) (ev_gF rfl rfl (P_read_curve l hl h13 ht) (outZ_cur _))) rfl (by walk_at "ss") ?_
  refine ev_sifF (ev_orF (ev_notF (ev_fB (ev_fU rfl rfl) rfl)) (ev_fB (ev_f2 rfl rfl (gNeD (b := false) rfl rfl (okD_cD _) (okD_cD _) (by rw [eqv_cD, decide_eq_true rfl]; rfl))) rfl)) (ev_snext ?_)
  obtain ⟨δ', e, r2, rfl⟩ := forN_inv (g := tName 2) (b := (fIfS (fOr (fNot (fB (fU (gIsi (ansL [(.non, false), (.bl, false), (.int, false), (.lst, false), (.tup, true), (.str, false)])) (fVar 2)))) (fOr (fB (fU (gIsi (ansL [(.non, false), (.bl, true), (.int, false), (.lst, false), (.tup, false), (.str, false)])) (f2 gIx (fVar 2) (fC (.int 0))))) (fB (fU (gIsi (ansL [(.non, false), (.bl, true), (.int, false), (.lst, false), (.tup, false), (.str, false)])) (f2 gIx (fVar 2) (fC (.int 1))))))) (fRet (fC (.bool false))) fNext)) (δ := [.dat (cD l), .dat (cD l), .no])
    (fun i δ => ∃ r2 : Sl, δ = [.dat (cD l), .dat (cD l), r2]) (l.map nD) ⟨.no, rfl⟩
    (by
      rintro i d δ hd ⟨r2, rfl⟩
      rw [List.getElem?_map, Option.map_eq_some_iff] at hd
      obtain ⟨q, _, rfl⟩ := hd
      exact ⟨_, _, rfl, .inl (ev_iF (ev_orF (ev_notF (ev_fB (ev_fU rfl rfl) rfl)) (ev_orF (ev_fB (ev_fU (ev_f2 rfl rfl ix_t0) rfl) rfl) (ev_fB (ev_fU (ev_f2 rfl rfl ix_t1) rfl) rfl))) rfl), _, rfl⟩)
  exact ev_seq (ev_for (ev_fI rfl rfl) e) (ev_ret rfl rfl)
theorem pure_law (ns : List Int) (_h : ns.length ≤ 63) : F_law [scr ns] = okM (.val (.bool true)) := by
  refine ev_fn rfl ?_
  show B_law [.dat (scr ns), .no, .no] = _
  unfold B_law
  obtain ⟨l, a1, a2, a3, a4⟩ := L_curve ns 100 (by decide) (by decide)
  obtain ⟨m, b1, b2, b3, b4⟩ := L_curve ns 300 (by decide) (by decide)
  refine ev_sset (ev_call (ev_cons rfl (ev_cons rfl rfl)) (ev_gF rfl rfl a4 (outZ_cur _))) rfl (by walk_at "ss") ?_
  refine ev_sset (ev_call (ev_cons rfl (ev_cons rfl rfl)) (ev_gF rfl rfl b4 (outZ_cur _))) rfl (by walk_at "ss") ?_
  have r1 := L_right l a2 a1 a3
  have r2 := L_right m b2 b1 b3
  have r3 := P_read_curve [] (fun q h => nomatch h) (by decide) rfl
  have e0 : ofL (txF []) = ("0" : Str) := by decide +kernel
  rw [e0] at r3
  have w1 : ∀ x : List Rat, F__law_right [cD x] = okM (.val (.bool true)) → ∀ {f : List Sl → M Rz}, f [.dat (scr ns), .dat (cD l), .dat (cD m)] = okM (.dat (cD x)) → fB (fCall (gF 1 F__law_right) (fCons f fNil)) [.dat (scr ns), .dat (cD l), .dat (cD m)] = okM true := fun x h f hf => ev_fB (ev_call (ev_cons hf rfl) (ev_gF rfl rfl h rfl)) rfl
  exact ev_ret (ev_fV (ev_andT (w1 l r1 rfl) (ev_andT (w1 m r2 rfl) (ev_andT (w1 l r1 rfl) (ev_fB (ev_f2 (ev_call (ev_cons rfl rfl) (ev_gF rfl rfl r3 (outZ_cur _))) (ev_call rfl rfl) (gEqD (b := true) (d := cD []) (e := cD []) rfl rfl (okD_cD _) (okD_cD _) (by rw [eqv_cD, decide_eq_true rfl]))) rfl))))) rfl
end Law

set_option Elab.async false
set_option linter.all false
namespace Law
open PySem PySem.Spec PyProof.Rows L2 L3 D3
structure Raw [Ecx] (K : PySem.W.Frag) : Prop where
  ik_str : IsK K (.ty "str") (ansL [(.non, false), (.bl, false), (.int, false), (.lst, false), (.tup, false), (.str, true)])
  n_NoText : PySem.W.nsIn K mainGlobals "NoText" = some (some (.ref (ecx .NoText)))
  q_NoText : PySem.W.excIn K (ecx .NoText) [.type "ValueError", .type "Exception", .type "BaseException", .type "object"] "ValueError.__new__" = true
  k_MOST_NUMBERS : ∃ t, PySem.W.nsIn K mainGlobals "MOST_NUMBERS" = some (some (.int 13 t))
  n_TooGreat : PySem.W.nsIn K mainGlobals "TooGreat" = some (some (.ref (ecx .TooGreat)))
  q_TooGreat : PySem.W.excIn K (ecx .TooGreat) [.type "ValueError", .type "Exception", .type "BaseException", .type "object"] "ValueError.__new__" = true
  k_MOST_FIGURES : ∃ t, PySem.W.nsIn K mainGlobals "MOST_FIGURES" = some (some (.int 12 t))
  k_FIGURES : ∃ t, PySem.W.nsIn K mainGlobals "FIGURES" = some (some (.str "0123456789" t))
  n_NoNumber : PySem.W.nsIn K mainGlobals "NoNumber" = some (some (.ref (ecx .NoNumber)))
  q_NoNumber : PySem.W.excIn K (ecx .NoNumber) [.type "ValueError", .type "Exception", .type "BaseException", .type "object"] "ValueError.__new__" = true
  k_ONE : ∃ a t u od m sl, PySem.W.nsIn K mainGlobals "ONE" = some (some (.ref a)) ∧ K.lookup a = some ⟨.type "tuple", od, .seq #[.int 1 t, .int 1 u] m, sl⟩
  k_NOUGHT : ∃ a t u od m sl, PySem.W.nsIn K mainGlobals "NOUGHT" = some (some (.ref a)) ∧ K.lookup a = some ⟨.type "tuple", od, .seq #[.int 0 t, .int 1 u] m, sl⟩
  ik_tuple : IsK K (.ty "tuple") (ansL [(.non, false), (.bl, false), (.int, false), (.lst, false), (.tup, true), (.str, false)])
  ik_bool : IsK K (.ty "bool") (ansL [(.non, false), (.bl, true), (.int, false), (.lst, false), (.tup, false), (.str, false)])
theorem raw_of [Ecx] {K : PySem.W.Frag} {t_MOST_NUMBERS : Tok} {t_MOST_FIGURES : Tok} {t_FIGURES : Tok} {a_ONE : Addr} {t_ONE : Tok} {u_ONE : Tok} {od_ONE : Option Addr} {m_ONE : Nat} {sl_ONE : Array (Option Value)} {a_NOUGHT : Addr} {t_NOUGHT : Tok} {u_NOUGHT : Tok} {od_NOUGHT : Option Addr} {m_NOUGHT : Nat} {sl_NOUGHT : Array (Option Value)} (ik_str_0 : PySem.W.kitOne K (.type "NoneType") (.type "str") = some false)
    (ik_str_1 : PySem.W.kitOne K (.type "bool") (.type "str") = some false)
    (ik_str_2 : PySem.W.kitOne K (.type "int") (.type "str") = some false)
    (ik_str_3 : PySem.W.kitOne K (.type "list") (.type "str") = some false)
    (ik_str_4 : PySem.W.kitOne K (.type "tuple") (.type "str") = some false)
    (ik_str_5 : PySem.W.kitOne K (.type "str") (.type "str") = some true)
    (n_NoText : PySem.W.nsIn K mainGlobals "NoText" = some (some (.ref (ecx .NoText))))
    (q_NoText : PySem.W.excIn K (ecx .NoText) [.type "ValueError", .type "Exception", .type "BaseException", .type "object"] "ValueError.__new__" = true)
    (k_MOST_NUMBERS : PySem.W.nsIn K mainGlobals "MOST_NUMBERS" = some (some (.int 13 t_MOST_NUMBERS)))
    (n_TooGreat : PySem.W.nsIn K mainGlobals "TooGreat" = some (some (.ref (ecx .TooGreat))))
    (q_TooGreat : PySem.W.excIn K (ecx .TooGreat) [.type "ValueError", .type "Exception", .type "BaseException", .type "object"] "ValueError.__new__" = true)
    (k_MOST_FIGURES : PySem.W.nsIn K mainGlobals "MOST_FIGURES" = some (some (.int 12 t_MOST_FIGURES)))
    (k_FIGURES : PySem.W.nsIn K mainGlobals "FIGURES" = some (some (.str "0123456789" t_FIGURES)))
    (n_NoNumber : PySem.W.nsIn K mainGlobals "NoNumber" = some (some (.ref (ecx .NoNumber))))
    (q_NoNumber : PySem.W.excIn K (ecx .NoNumber) [.type "ValueError", .type "Exception", .type "BaseException", .type "object"] "ValueError.__new__" = true)
    (k_ONE : PySem.W.nsIn K mainGlobals "ONE" = some (some (.ref a_ONE)))
    (l_ONE : K.lookup a_ONE = some ⟨.type "tuple", od_ONE, .seq #[.int 1 t_ONE, .int 1 u_ONE] m_ONE, sl_ONE⟩)
    (k_NOUGHT : PySem.W.nsIn K mainGlobals "NOUGHT" = some (some (.ref a_NOUGHT)))
    (l_NOUGHT : K.lookup a_NOUGHT = some ⟨.type "tuple", od_NOUGHT, .seq #[.int 0 t_NOUGHT, .int 1 u_NOUGHT] m_NOUGHT, sl_NOUGHT⟩)
    (ik_tuple_0 : PySem.W.kitOne K (.type "NoneType") (.type "tuple") = some false)
    (ik_tuple_1 : PySem.W.kitOne K (.type "bool") (.type "tuple") = some false)
    (ik_tuple_2 : PySem.W.kitOne K (.type "int") (.type "tuple") = some false)
    (ik_tuple_3 : PySem.W.kitOne K (.type "list") (.type "tuple") = some false)
    (ik_tuple_4 : PySem.W.kitOne K (.type "tuple") (.type "tuple") = some true)
    (ik_tuple_5 : PySem.W.kitOne K (.type "str") (.type "tuple") = some false)
    (ik_bool_0 : PySem.W.kitOne K (.type "NoneType") (.type "bool") = some false)
    (ik_bool_1 : PySem.W.kitOne K (.type "bool") (.type "bool") = some true)
    (ik_bool_2 : PySem.W.kitOne K (.type "int") (.type "bool") = some false)
    (ik_bool_3 : PySem.W.kitOne K (.type "list") (.type "bool") = some false)
    (ik_bool_4 : PySem.W.kitOne K (.type "tuple") (.type "bool") = some false)
    (ik_bool_5 : PySem.W.kitOne K (.type "str") (.type "bool") = some false) : Raw K := by
  constructor
  case ik_str => exact isK_of rfl (by intro p hp; exact (fun hh => (List.mem_cons.mp hh).elim (fun e => by subst e; exact ⟨ik_str_0, fun n e => nomatch e⟩) (fun hh => (List.mem_cons.mp hh).elim (fun e => by subst e; exact ⟨ik_str_1, fun n e => nomatch e⟩) (fun hh => (List.mem_cons.mp hh).elim (fun e => by subst e; exact ⟨ik_str_2, fun n e => nomatch e⟩) (fun hh => (List.mem_cons.mp hh).elim (fun e => by subst e; exact ⟨ik_str_3, fun n e => nomatch e⟩) (fun hh => (List.mem_cons.mp hh).elim (fun e => by subst e; exact ⟨ik_str_4, fun n e => nomatch e⟩) (fun hh => (List.mem_cons.mp hh).elim (fun e => by subst e; exact ⟨ik_str_5, fun n e => nomatch e⟩) (fun hh => nomatch hh))))))) hp)
  case n_NoText => exact n_NoText
  case q_NoText => exact q_NoText
  case k_MOST_NUMBERS => exact ⟨_, k_MOST_NUMBERS⟩
  case n_TooGreat => exact n_TooGreat
  case q_TooGreat => exact q_TooGreat
  case k_MOST_FIGURES => exact ⟨_, k_MOST_FIGURES⟩
  case k_FIGURES => exact ⟨_, k_FIGURES⟩
  case n_NoNumber => exact n_NoNumber
  case q_NoNumber => exact q_NoNumber
  case k_ONE => exact ⟨_, _, _, _, _, _, k_ONE, l_ONE⟩
  case k_NOUGHT => exact ⟨_, _, _, _, _, _, k_NOUGHT, l_NOUGHT⟩
  case ik_tuple => exact isK_of rfl (by intro p hp; exact (fun hh => (List.mem_cons.mp hh).elim (fun e => by subst e; exact ⟨ik_tuple_0, fun n e => nomatch e⟩) (fun hh => (List.mem_cons.mp hh).elim (fun e => by subst e; exact ⟨ik_tuple_1, fun n e => nomatch e⟩) (fun hh => (List.mem_cons.mp hh).elim (fun e => by subst e; exact ⟨ik_tuple_2, fun n e => nomatch e⟩) (fun hh => (List.mem_cons.mp hh).elim (fun e => by subst e; exact ⟨ik_tuple_3, fun n e => nomatch e⟩) (fun hh => (List.mem_cons.mp hh).elim (fun e => by subst e; exact ⟨ik_tuple_4, fun n e => nomatch e⟩) (fun hh => (List.mem_cons.mp hh).elim (fun e => by subst e; exact ⟨ik_tuple_5, fun n e => nomatch e⟩) (fun hh => nomatch hh))))))) hp)
  case ik_bool => exact isK_of rfl (by intro p hp; exact (fun hh => (List.mem_cons.mp hh).elim (fun e => by subst e; exact ⟨ik_bool_0, fun n e => nomatch e⟩) (fun hh => (List.mem_cons.mp hh).elim (fun e => by subst e; exact ⟨ik_bool_1, fun n e => nomatch e⟩) (fun hh => (List.mem_cons.mp hh).elim (fun e => by subst e; exact ⟨ik_bool_2, fun n e => nomatch e⟩) (fun hh => (List.mem_cons.mp hh).elim (fun e => by subst e; exact ⟨ik_bool_3, fun n e => nomatch e⟩) (fun hh => (List.mem_cons.mp hh).elim (fun e => by subst e; exact ⟨ik_bool_4, fun n e => nomatch e⟩) (fun hh => (List.mem_cons.mp hh).elim (fun e => by subst e; exact ⟨ik_bool_5, fun n e => nomatch e⟩) (fun hh => nomatch hh))))))) hp)
theorem raw_mk {K : PySem.W.Frag} {C_NoText : Addr} {C_TooGreat : Addr} {C_NoNumber : Addr} {t_MOST_NUMBERS : Tok} {t_MOST_FIGURES : Tok} {t_FIGURES : Tok} {a_ONE : Addr} {t_ONE : Tok} {u_ONE : Tok} {od_ONE : Option Addr} {m_ONE : Nat} {sl_ONE : Array (Option Value)} {a_NOUGHT : Addr} {t_NOUGHT : Tok} {u_NOUGHT : Tok} {od_NOUGHT : Option Addr} {m_NOUGHT : Nat} {sl_NOUGHT : Array (Option Value)} (ik_str_0 : PySem.W.kitOne K (.type "NoneType") (.type "str") = some false)
    (ik_str_1 : PySem.W.kitOne K (.type "bool") (.type "str") = some false)
    (ik_str_2 : PySem.W.kitOne K (.type "int") (.type "str") = some false)
    (ik_str_3 : PySem.W.kitOne K (.type "list") (.type "str") = some false)
    (ik_str_4 : PySem.W.kitOne K (.type "tuple") (.type "str") = some false)
    (ik_str_5 : PySem.W.kitOne K (.type "str") (.type "str") = some true)
    (n_NoText : PySem.W.nsIn K mainGlobals "NoText" = some (some (.ref C_NoText)))
    (q_NoText : PySem.W.excIn K C_NoText [.type "ValueError", .type "Exception", .type "BaseException", .type "object"] "ValueError.__new__" = true)
    (k_MOST_NUMBERS : PySem.W.nsIn K mainGlobals "MOST_NUMBERS" = some (some (.int 13 t_MOST_NUMBERS)))
    (n_TooGreat : PySem.W.nsIn K mainGlobals "TooGreat" = some (some (.ref C_TooGreat)))
    (q_TooGreat : PySem.W.excIn K C_TooGreat [.type "ValueError", .type "Exception", .type "BaseException", .type "object"] "ValueError.__new__" = true)
    (k_MOST_FIGURES : PySem.W.nsIn K mainGlobals "MOST_FIGURES" = some (some (.int 12 t_MOST_FIGURES)))
    (k_FIGURES : PySem.W.nsIn K mainGlobals "FIGURES" = some (some (.str "0123456789" t_FIGURES)))
    (n_NoNumber : PySem.W.nsIn K mainGlobals "NoNumber" = some (some (.ref C_NoNumber)))
    (q_NoNumber : PySem.W.excIn K C_NoNumber [.type "ValueError", .type "Exception", .type "BaseException", .type "object"] "ValueError.__new__" = true)
    (k_ONE : PySem.W.nsIn K mainGlobals "ONE" = some (some (.ref a_ONE)))
    (l_ONE : K.lookup a_ONE = some ⟨.type "tuple", od_ONE, .seq #[.int 1 t_ONE, .int 1 u_ONE] m_ONE, sl_ONE⟩)
    (k_NOUGHT : PySem.W.nsIn K mainGlobals "NOUGHT" = some (some (.ref a_NOUGHT)))
    (l_NOUGHT : K.lookup a_NOUGHT = some ⟨.type "tuple", od_NOUGHT, .seq #[.int 0 t_NOUGHT, .int 1 u_NOUGHT] m_NOUGHT, sl_NOUGHT⟩)
    (ik_tuple_0 : PySem.W.kitOne K (.type "NoneType") (.type "tuple") = some false)
    (ik_tuple_1 : PySem.W.kitOne K (.type "bool") (.type "tuple") = some false)
    (ik_tuple_2 : PySem.W.kitOne K (.type "int") (.type "tuple") = some false)
    (ik_tuple_3 : PySem.W.kitOne K (.type "list") (.type "tuple") = some false)
    (ik_tuple_4 : PySem.W.kitOne K (.type "tuple") (.type "tuple") = some true)
    (ik_tuple_5 : PySem.W.kitOne K (.type "str") (.type "tuple") = some false)
    (ik_bool_0 : PySem.W.kitOne K (.type "NoneType") (.type "bool") = some false)
    (ik_bool_1 : PySem.W.kitOne K (.type "bool") (.type "bool") = some true)
    (ik_bool_2 : PySem.W.kitOne K (.type "int") (.type "bool") = some false)
    (ik_bool_3 : PySem.W.kitOne K (.type "list") (.type "bool") = some false)
    (ik_bool_4 : PySem.W.kitOne K (.type "tuple") (.type "bool") = some false)
    (ik_bool_5 : PySem.W.kitOne K (.type "str") (.type "bool") = some false) : ∃ I : Ecx, @Raw I K :=
  ⟨⟨fun e => match e with | .NoText => C_NoText | .TooGreat => C_TooGreat | .NoNumber => C_NoNumber | _ => 0⟩, @raw_of ⟨fun e => match e with | .NoText => C_NoText | .TooGreat => C_TooGreat | .NoNumber => C_NoNumber | _ => 0⟩ K _ _ _ _ _ _ _ _ _ _ _ _ _ _ _ ik_str_0 ik_str_1 ik_str_2 ik_str_3 ik_str_4 ik_str_5 n_NoText q_NoText k_MOST_NUMBERS n_TooGreat q_TooGreat k_MOST_FIGURES k_FIGURES n_NoNumber q_NoNumber k_ONE l_ONE k_NOUGHT l_NOUGHT ik_tuple_0 ik_tuple_1 ik_tuple_2 ik_tuple_3 ik_tuple_4 ik_tuple_5 ik_bool_0 ik_bool_1 ik_bool_2 ik_bool_3 ik_bool_4 ik_bool_5⟩
theorem facts_of [Ecx] {K : PySem.W.Frag} {mg : Str → Option Value} {h : Heap} (R : Raw K) (X : K.In h) (G : h.Ns mainGlobals mg) (m_len : mg "len" = none) (m_abs : mg "abs" = none) (m_str : mg "str" = none) (m_int : mg "int" = none) (m_range : mg "range" = none) (m_tuple : mg "tuple" = none) (m_isinstance : mg "isinstance" = none) (m_all : mg "all" = none) (m_bool : mg "bool" = none) : Facts K mg := by
  refine Facts.mk ?g0 ?g1 ?g2 ?g3 ?g4 ?g5 ?g6 ?g7 ?g8 ?g9 ?g10 ?g11 ?g12 ?g13 ?g14 ?g15 ?g16 ?g17 ?g18 ?g19 ?g20 ?g21 ?g22
  case g0 => exact m_len
  case g1 => exact m_abs
  case g2 => exact m_str
  case g3 => exact m_int
  case g4 => exact m_range
  case g5 => exact m_tuple
  case g6 => exact m_isinstance
  case g7 => exact R.ik_str
  case g8 => exact PySem.W.mg_of X G R.n_NoText
  case g9 => exact R.q_NoText
  case g10 => (obtain ⟨t, e⟩ := R.k_MOST_NUMBERS; exact hasC_int (PySem.W.mg_of X G e))
  case g11 => exact PySem.W.mg_of X G R.n_TooGreat
  case g12 => exact R.q_TooGreat
  case g13 => (obtain ⟨t, e⟩ := R.k_MOST_FIGURES; exact hasC_int (PySem.W.mg_of X G e))
  case g14 => (obtain ⟨t, e⟩ := R.k_FIGURES; exact hasC_str (PySem.W.mg_of X G e))
  case g15 => exact m_all
  case g16 => exact PySem.W.mg_of X G R.n_NoNumber
  case g17 => exact R.q_NoNumber
  case g18 => (obtain ⟨a, t, u, od, m, sl, e, l⟩ := R.k_ONE; exact hasC_pair (PySem.W.mg_of X G e) l)
  case g19 => (obtain ⟨a, t, u, od, m, sl, e, l⟩ := R.k_NOUGHT; exact hasC_pair (PySem.W.mg_of X G e) l)
  case g20 => exact R.ik_tuple
  case g21 => exact m_bool
  case g22 => exact R.ik_bool
end Law
def PySem.W.Fast.tw18405740966666758094 : Unit := ()
def PySem.W.Fast.tw17817159379657999918 : Unit := ()
def PySem.W.Fast.tw1706162280475568451 : Unit := ()
def PySem.W.Fast.tw5404414284179710858 : Unit := ()
def PySem.W.Fast.tw11205515720957203989 : Unit := ()
def PySem.W.Fast.tw14483670852904301681 : Unit := ()
def PySem.W.Fast.tw4078342092687689780 : Unit := ()
def PySem.W.Fast.tw10332196156747302099 : Unit := ()
open PySem PySem.W PyProof.Rows L2 L3 D3 Law
set_option maxRecDepth 100000 in
set_option maxHeartbeats 0 in
theorem PySem.Challenge.cw_neverbelow_k57_curves_read_holds : PySem.Challenge.rw_neverbelow_k57_curves_read.Holds := by
  w_on; o_law; k_head; (case hw => w_witness2)
  k_fill
  refine L3.walkL (l := PySem.Challenge.rw_neverbelow_k57_curves_read) rfl rfl (fun w h Y => PySem.W.kIn_of Y) ?F
  case F =>
    intro w mg fa h KX G hmg
    have D__law_mixed : L3.HasDef (L2.KOf KX) "_law_mixed" s__law_mixed := by
      dsimp only [L2.KOf]
      refine' L3.hasDef_mk ?a ?l ?c ?k
      (case a => k_is); (case l => k_is); (case c => k_is); (case k => k_is)
    have D__law_divisor : L3.HasDef (L2.KOf KX) "_law_divisor" s__law_divisor := by
      dsimp only [L2.KOf]
      refine' L3.hasDef_mk ?a ?l ?c ?k
      (case a => k_is); (case l => k_is); (case c => k_is); (case k => k_is)
    have D__law_number : L3.HasDef (L2.KOf KX) "_law_number" s__law_number := by
      dsimp only [L2.KOf]
      refine' L3.hasDef_mk ?a ?l ?c ?k
      (case a => k_is); (case l => k_is); (case c => k_is); (case k => k_is)
    have D__law_term : L3.HasDef (L2.KOf KX) "_law_term" s__law_term := by
      dsimp only [L2.KOf]
      refine' L3.hasDef_mk ?a ?l ?c ?k
      (case a => k_is); (case l => k_is); (case c => k_is); (case k => k_is)
    have D__law_text : L3.HasDef (L2.KOf KX) "_law_text" s__law_text := by
      dsimp only [L2.KOf]
      refine' L3.hasDef_mk ?a ?l ?c ?k
      (case a => k_is); (case l => k_is); (case c => k_is); (case k => k_is)
    have D__law_curve : L3.HasDef (L2.KOf KX) "_law_curve" s__law_curve := by
      dsimp only [L2.KOf]
      refine' L3.hasDef_mk ?a ?l ?c ?k
      (case a => k_is); (case l => k_is); (case c => k_is); (case k => k_is)
    have D_check_text : L3.HasDef (L2.KOf KX) "check_text" s_check_text := by
      dsimp only [L2.KOf]
      refine' L3.hasDef_mk ?a ?l ?c ?k
      (case a => k_is); (case l => k_is); (case c => k_is); (case k => k_is)
    have D_sign_and_rest : L3.HasDef (L2.KOf KX) "sign_and_rest" s_sign_and_rest := by
      dsimp only [L2.KOf]
      refine' L3.hasDef_mk ?a ?l ?c ?k
      (case a => k_is); (case l => k_is); (case c => k_is); (case k => k_is)
    have D_terms_in : L3.HasDef (L2.KOf KX) "terms_in" s_terms_in := by
      dsimp only [L2.KOf]
      refine' L3.hasDef_mk ?a ?l ?c ?k
      (case a => k_is); (case l => k_is); (case c => k_is); (case k => k_is)
    have D_sign : L3.HasDef (L2.KOf KX) "sign" s_sign := by
      dsimp only [L2.KOf]
      refine' L3.hasDef_mk ?a ?l ?c ?k
      (case a => k_is); (case l => k_is); (case c => k_is); (case k => k_is)
    have D_curve_of : L3.HasDef (L2.KOf KX) "curve_of" s_curve_of := by
      dsimp only [L2.KOf]
      refine' L3.hasDef_mk ?a ?l ?c ?k
      (case a => k_is); (case l => k_is); (case c => k_is); (case k => k_is)
    have D_check_written : L3.HasDef (L2.KOf KX) "check_written" s_check_written := by
      dsimp only [L2.KOf]
      refine' L3.hasDef_mk ?a ?l ?c ?k
      (case a => k_is); (case l => k_is); (case c => k_is); (case k => k_is)
    have D_whole_in : L3.HasDef (L2.KOf KX) "whole_in" s_whole_in := by
      dsimp only [L2.KOf]
      refine' L3.hasDef_mk ?a ?l ?c ?k
      (case a => k_is); (case l => k_is); (case c => k_is); (case k => k_is)
    have D_greatest_divisor : L3.HasDef (L2.KOf KX) "greatest_divisor" s_greatest_divisor := by
      dsimp only [L2.KOf]
      refine' L3.hasDef_mk ?a ?l ?c ?k
      (case a => k_is); (case l => k_is); (case c => k_is); (case k => k_is)
    have D_number : L3.HasDef (L2.KOf KX) "number" s_number := by
      dsimp only [L2.KOf]
      refine' L3.hasDef_mk ?a ?l ?c ?k
      (case a => k_is); (case l => k_is); (case c => k_is); (case k => k_is)
    have D_size_in : L3.HasDef (L2.KOf KX) "size_in" s_size_in := by
      dsimp only [L2.KOf]
      refine' L3.hasDef_mk ?a ?l ?c ?k
      (case a => k_is); (case l => k_is); (case c => k_is); (case k => k_is)
    have D_power_in : L3.HasDef (L2.KOf KX) "power_in" s_power_in := by
      dsimp only [L2.KOf]
      refine' L3.hasDef_mk ?a ?l ?c ?k
      (case a => k_is); (case l => k_is); (case c => k_is); (case k => k_is)
    have D_term_in : L3.HasDef (L2.KOf KX) "term_in" s_term_in := by
      dsimp only [L2.KOf]
      refine' L3.hasDef_mk ?a ?l ?c ?k
      (case a => k_is); (case l => k_is); (case c => k_is); (case k => k_is)
    have D_minus : L3.HasDef (L2.KOf KX) "minus" s_minus := by
      dsimp only [L2.KOf]
      refine' L3.hasDef_mk ?a ?l ?c ?k
      (case a => k_is); (case l => k_is); (case c => k_is); (case k => k_is)
    have D_signed : L3.HasDef (L2.KOf KX) "signed" s_signed := by
      dsimp only [L2.KOf]
      refine' L3.hasDef_mk ?a ?l ?c ?k
      (case a => k_is); (case l => k_is); (case c => k_is); (case k => k_is)
    have D_show_number : L3.HasDef (L2.KOf KX) "show_number" s_show_number := by
      dsimp only [L2.KOf]
      refine' L3.hasDef_mk ?a ?l ?c ?k
      (case a => k_is); (case l => k_is); (case c => k_is); (case k => k_is)
    have D_show_power : L3.HasDef (L2.KOf KX) "show_power" s_show_power := by
      dsimp only [L2.KOf]
      refine' L3.hasDef_mk ?a ?l ?c ?k
      (case a => k_is); (case l => k_is); (case c => k_is); (case k => k_is)
    have D_show_term : L3.HasDef (L2.KOf KX) "show_term" s_show_term := by
      dsimp only [L2.KOf]
      refine' L3.hasDef_mk ?a ?l ?c ?k
      (case a => k_is); (case l => k_is); (case c => k_is); (case k => k_is)
    have D_show_curve : L3.HasDef (L2.KOf KX) "show_curve" s_show_curve := by
      dsimp only [L2.KOf]
      refine' L3.hasDef_mk ?a ?l ?c ?k
      (case a => k_is); (case l => k_is); (case c => k_is); (case k => k_is)
    have D_read_curve : L3.HasDef (L2.KOf KX) "read_curve" s_read_curve := by
      dsimp only [L2.KOf]
      refine' L3.hasDef_mk ?a ?l ?c ?k
      (case a => k_is); (case l => k_is); (case c => k_is); (case k => k_is)
    have D__law_right : L3.HasDef (L2.KOf KX) "_law_right" s__law_right := by
      dsimp only [L2.KOf]
      refine' L3.hasDef_mk ?a ?l ?c ?k
      (case a => k_is); (case l => k_is); (case c => k_is); (case k => k_is)
    have D_law : L3.HasDef (L2.KOf KX) "law" s_law := by
      dsimp only [L2.KOf]
      refine' L3.hasDef_mk ?a ?l ?c ?k
      (case a => k_is); (case l => k_is); (case c => k_is); (case k => k_is)
    have z_len : PySem.W.nsIn (L2.KOf KX) mainGlobals "len" = some none := by
      dsimp only [L2.KOf]
      k_is
    have m_len := PySem.W.mg_none_of KX G z_len
    have z_abs : PySem.W.nsIn (L2.KOf KX) mainGlobals "abs" = some none := by
      dsimp only [L2.KOf]
      k_is
    have m_abs := PySem.W.mg_none_of KX G z_abs
    have z_str : PySem.W.nsIn (L2.KOf KX) mainGlobals "str" = some none := by
      dsimp only [L2.KOf]
      k_is
    have m_str := PySem.W.mg_none_of KX G z_str
    have z_int : PySem.W.nsIn (L2.KOf KX) mainGlobals "int" = some none := by
      dsimp only [L2.KOf]
      k_is
    have m_int := PySem.W.mg_none_of KX G z_int
    have z_range : PySem.W.nsIn (L2.KOf KX) mainGlobals "range" = some none := by
      dsimp only [L2.KOf]
      k_is
    have m_range := PySem.W.mg_none_of KX G z_range
    have z_tuple : PySem.W.nsIn (L2.KOf KX) mainGlobals "tuple" = some none := by
      dsimp only [L2.KOf]
      k_is
    have m_tuple := PySem.W.mg_none_of KX G z_tuple
    have z_isinstance : PySem.W.nsIn (L2.KOf KX) mainGlobals "isinstance" = some none := by
      dsimp only [L2.KOf]
      k_is
    have m_isinstance := PySem.W.mg_none_of KX G z_isinstance
    have z_all : PySem.W.nsIn (L2.KOf KX) mainGlobals "all" = some none := by
      dsimp only [L2.KOf]
      k_is
    have m_all := PySem.W.mg_none_of KX G z_all
    have z_bool : PySem.W.nsIn (L2.KOf KX) mainGlobals "bool" = some none := by
      dsimp only [L2.KOf]
      k_is
    have m_bool := PySem.W.mg_none_of KX G z_bool
    have rw_ : ∃ I : Ecx, @Law.Raw I (L2.KOf KX) := by
      dsimp only [L2.KOf]
      refine' Law.raw_mk ?ik_str_0 ?ik_str_1 ?ik_str_2 ?ik_str_3 ?ik_str_4 ?ik_str_5 ?n_NoText ?q_NoText ?k_MOST_NUMBERS ?n_TooGreat ?q_TooGreat ?k_MOST_FIGURES ?k_FIGURES ?n_NoNumber ?q_NoNumber ?k_ONE ?l_ONE ?k_NOUGHT ?l_NOUGHT ?ik_tuple_0 ?ik_tuple_1 ?ik_tuple_2 ?ik_tuple_3 ?ik_tuple_4 ?ik_tuple_5 ?ik_bool_0 ?ik_bool_1 ?ik_bool_2 ?ik_bool_3 ?ik_bool_4 ?ik_bool_5
      (case ik_str_0 => kit_is)
      (case ik_str_1 => kit_is)
      (case ik_str_2 => kit_is)
      (case ik_str_3 => kit_is)
      (case ik_str_4 => kit_is)
      (case ik_str_5 => kit_is)
      (case n_NoText => k_is)
      (case q_NoText => k_exc)
      (case k_MOST_NUMBERS => k_is)
      (case n_TooGreat => k_is)
      (case q_TooGreat => k_exc)
      (case k_MOST_FIGURES => k_is)
      (case k_FIGURES => k_is)
      (case n_NoNumber => k_is)
      (case q_NoNumber => k_exc)
      (case k_ONE => k_is)
      (case l_ONE => k_is)
      (case k_NOUGHT => k_is)
      (case l_NOUGHT => k_is)
      (case ik_tuple_0 => kit_is)
      (case ik_tuple_1 => kit_is)
      (case ik_tuple_2 => kit_is)
      (case ik_tuple_3 => kit_is)
      (case ik_tuple_4 => kit_is)
      (case ik_tuple_5 => kit_is)
      (case ik_bool_0 => kit_is)
      (case ik_bool_1 => kit_is)
      (case ik_bool_2 => kit_is)
      (case ik_bool_3 => kit_is)
      (case ik_bool_4 => kit_is)
      (case ik_bool_5 => kit_is)
    obtain ⟨I, R⟩ := rw_
    have A := @Law.facts_of I _ _ _ R KX G m_len m_abs m_str m_int m_range m_tuple m_isinstance m_all m_bool
    refine L3.law_of KX G hmg D_law (fun _ _ _ _ _ _ _ => rfl) (fun base kb nb f fd F => ?_)
    have C__law_mixed := L3.cal_of (P := PySem.Challenge.rw_neverbelow_k57_curves_read.prog) (w := w) (base := base) KX G D__law_mixed (ps := ["_law_script", "_law_k"]) (fun _ _ _ _ _ _ us hl => match us, hl with | [_, _], _ => rfl) (fun f fd F => @ok__law_mixed I _ w _ _ base f fd A F)
    have C__law_divisor := L3.cal_of (P := PySem.Challenge.rw_neverbelow_k57_curves_read.prog) (w := w) (base := base) KX G D__law_divisor (ps := ["_law_one", "_law_other"]) (fun _ _ _ _ _ _ us hl => match us, hl with | [_, _], _ => rfl) (fun f fd F => @ok__law_divisor I _ w _ _ base f fd A F)
    have C__law_number := L3.cal_of (P := PySem.Challenge.rw_neverbelow_k57_curves_read.prog) (w := w) (base := base) KX G D__law_number (ps := ["_law_script", "_law_at"]) (fun _ _ _ _ _ _ us hl => match us, hl with | [_, _], _ => rfl) (fun f fd F => @ok__law_number I _ w _ _ base f fd A C__law_mixed C__law_divisor F)
    have C__law_term := L3.cal_of (P := PySem.Challenge.rw_neverbelow_k57_curves_read.prog) (w := w) (base := base) KX G D__law_term (ps := ["_law_one", "_law_k"]) (fun _ _ _ _ _ _ us hl => match us, hl with | [_, _], _ => rfl) (fun f fd F => @ok__law_term I _ w _ _ base f fd A F)
    have C__law_text := L3.cal_of (P := PySem.Challenge.rw_neverbelow_k57_curves_read.prog) (w := w) (base := base) KX G D__law_text (ps := ["_law_curve_here"]) (fun _ _ _ _ _ _ us hl => match us, hl with | [_], _ => rfl) (fun f fd F => @ok__law_text I _ w _ _ base f fd A C__law_term F)
    have C__law_curve := L3.cal_of (P := PySem.Challenge.rw_neverbelow_k57_curves_read.prog) (w := w) (base := base) KX G D__law_curve (ps := ["_law_script", "_law_at"]) (fun _ _ _ _ _ _ us hl => match us, hl with | [_, _], _ => rfl) (fun f fd F => @ok__law_curve I _ w _ _ base f fd A C__law_number C__law_mixed C__law_text F)
    have C_check_text := L3.cal_of (P := PySem.Challenge.rw_neverbelow_k57_curves_read.prog) (w := w) (base := base) KX G D_check_text (ps := ["text"]) (fun _ _ _ _ _ _ us hl => match us, hl with | [_], _ => rfl) (fun f fd F => @ok_check_text I _ w _ _ base f fd A F)
    have C_sign_and_rest := L3.cal_of (P := PySem.Challenge.rw_neverbelow_k57_curves_read.prog) (w := w) (base := base) KX G D_sign_and_rest (ps := ["text"]) (fun _ _ _ _ _ _ us hl => match us, hl with | [_], _ => rfl) (fun f fd F => @ok_sign_and_rest I _ w _ _ base f fd A F)
    have C_terms_in := L3.cal_of (P := PySem.Challenge.rw_neverbelow_k57_curves_read.prog) (w := w) (base := base) KX G D_terms_in (ps := ["text"]) (fun _ _ _ _ _ _ us hl => match us, hl with | [_], _ => rfl) (fun f fd F => @ok_terms_in I _ w _ _ base f fd A C_sign_and_rest F)
    have C_sign := L3.cal_of (P := PySem.Challenge.rw_neverbelow_k57_curves_read.prog) (w := w) (base := base) KX G D_sign (ps := ["one"]) (fun _ _ _ _ _ _ us hl => match us, hl with | [_], _ => rfl) (fun f fd F => @ok_sign I _ w _ _ base f fd A F)
    have C_curve_of := L3.cal_of (P := PySem.Challenge.rw_neverbelow_k57_curves_read.prog) (w := w) (base := base) KX G D_curve_of (ps := ["numbers"]) (fun _ _ _ _ _ _ us hl => match us, hl with | [_], _ => rfl) (fun f fd F => @ok_curve_of I _ w _ _ base f fd A C_sign F)
    have C_check_written := L3.cal_of (P := PySem.Challenge.rw_neverbelow_k57_curves_read.prog) (w := w) (base := base) KX G D_check_written (ps := ["text", "told"]) (fun _ _ _ _ _ _ us hl => match us, hl with | [_, _], _ => rfl) (fun f fd F => @ok_check_written I _ w _ _ base f fd A F)
    have C_whole_in := L3.cal_of (P := PySem.Challenge.rw_neverbelow_k57_curves_read.prog) (w := w) (base := base) KX G D_whole_in (ps := ["figures"]) (fun _ _ _ _ _ _ us hl => match us, hl with | [_], _ => rfl) (fun f fd F => @ok_whole_in I _ w _ _ base f fd A F)
    have C_greatest_divisor := L3.cal_of (P := PySem.Challenge.rw_neverbelow_k57_curves_read.prog) (w := w) (base := base) KX G D_greatest_divisor (ps := ["one", "other"]) (fun _ _ _ _ _ _ us hl => match us, hl with | [_, _], _ => rfl) (fun f fd F => @ok_greatest_divisor I _ w _ _ base f fd A F)
    have C_number := L3.cal_of (P := PySem.Challenge.rw_neverbelow_k57_curves_read.prog) (w := w) (base := base) KX G D_number (ps := ["top", "bottom"]) (fun _ _ _ _ _ _ us hl => match us, hl with | [_, _], _ => rfl) (fun f fd F => @ok_number I _ w _ _ base f fd A C_greatest_divisor F)
    have C_size_in := L3.cal_of (P := PySem.Challenge.rw_neverbelow_k57_curves_read.prog) (w := w) (base := base) KX G D_size_in (ps := ["text"]) (fun _ _ _ _ _ _ us hl => match us, hl with | [_], _ => rfl) (fun f fd F => @ok_size_in I _ w _ _ base f fd A C_whole_in C_number F)
    have C_power_in := L3.cal_of (P := PySem.Challenge.rw_neverbelow_k57_curves_read.prog) (w := w) (base := base) KX G D_power_in (ps := ["word"]) (fun _ _ _ _ _ _ us hl => match us, hl with | [_], _ => rfl) (fun f fd F => @ok_power_in I _ w _ _ base f fd A C_whole_in F)
    have C_term_in := L3.cal_of (P := PySem.Challenge.rw_neverbelow_k57_curves_read.prog) (w := w) (base := base) KX G D_term_in (ps := ["words"]) (fun _ _ _ _ _ _ us hl => match us, hl with | [_], _ => rfl) (fun f fd F => @ok_term_in I _ w _ _ base f fd A C_size_in C_power_in F)
    have C_minus := L3.cal_of (P := PySem.Challenge.rw_neverbelow_k57_curves_read.prog) (w := w) (base := base) KX G D_minus (ps := ["one", "other"]) (fun _ _ _ _ _ _ us hl => match us, hl with | [_, _], _ => rfl) (fun f fd F => @ok_minus I _ w _ _ base f fd A C_number F)
    have C_signed := L3.cal_of (P := PySem.Challenge.rw_neverbelow_k57_curves_read.prog) (w := w) (base := base) KX G D_signed (ps := ["word", "size"]) (fun _ _ _ _ _ _ us hl => match us, hl with | [_, _], _ => rfl) (fun f fd F => @ok_signed I _ w _ _ base f fd A C_minus F)
    have C_show_number := L3.cal_of (P := PySem.Challenge.rw_neverbelow_k57_curves_read.prog) (w := w) (base := base) KX G D_show_number (ps := ["one"]) (fun _ _ _ _ _ _ us hl => match us, hl with | [_], _ => rfl) (fun f fd F => @ok_show_number I _ w _ _ base f fd A F)
    have C_show_power := L3.cal_of (P := PySem.Challenge.rw_neverbelow_k57_curves_read.prog) (w := w) (base := base) KX G D_show_power (ps := ["place"]) (fun _ _ _ _ _ _ us hl => match us, hl with | [_], _ => rfl) (fun f fd F => @ok_show_power I _ w _ _ base f fd A F)
    have C_show_term := L3.cal_of (P := PySem.Challenge.rw_neverbelow_k57_curves_read.prog) (w := w) (base := base) KX G D_show_term (ps := ["size", "place"]) (fun _ _ _ _ _ _ us hl => match us, hl with | [_, _], _ => rfl) (fun f fd F => @ok_show_term I _ w _ _ base f fd A C_show_number C_show_power F)
    have C_show_curve := L3.cal_of (P := PySem.Challenge.rw_neverbelow_k57_curves_read.prog) (w := w) (base := base) KX G D_show_curve (ps := ["curve"]) (fun _ _ _ _ _ _ us hl => match us, hl with | [_], _ => rfl) (fun f fd F => @ok_show_curve I _ w _ _ base f fd A C_sign C_show_term F)
    have C_read_curve := L3.cal_of (P := PySem.Challenge.rw_neverbelow_k57_curves_read.prog) (w := w) (base := base) KX G D_read_curve (ps := ["text"]) (fun _ _ _ _ _ _ us hl => match us, hl with | [_], _ => rfl) (fun f fd F => @ok_read_curve I _ w _ _ base f fd A C_check_text C_terms_in C_curve_of C_check_written C_term_in C_signed C_show_curve F)
    have C__law_right := L3.cal_of (P := PySem.Challenge.rw_neverbelow_k57_curves_read.prog) (w := w) (base := base) KX G D__law_right (ps := ["_law_curve_here"]) (fun _ _ _ _ _ _ us hl => match us, hl with | [_], _ => rfl) (fun f fd F => @ok__law_right I _ w _ _ base f fd A C_read_curve C__law_text F)
    exact @law_conv I _ _ _ _ _ _ _ _ _ (@ok_law I _ w _ _ base f fd A C__law_curve C__law_right C_read_curve F) (by decide) Law.pure_law
