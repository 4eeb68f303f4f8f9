import PyProof.Rows.All
import Wide.All
import OpenK.AllK
import Wide.FinOn
import Lean
import PyProof.EqAt
import PyProof.EqKinds
import PyProof.TupleCall
import PySem.Challenge.RW_neverbelow_k53_rows_moved_stretched_plai
set_option Elab.async false
set_option linter.all false
set_option maxRecDepth 100000
namespace L2
open PySem PySem.Spec PyProof.Rows
abbrev Key := Sum Int Str
def keyIs : Key → Value → Bool
  | .inl k, v => Value.isInt k v
  | .inr x, v => Value.isStrOf x v
def keyH (w : World) : Key → Int
  | .inl k => hashInt k
  | .inr x => hashStr w x
theorem keyIs_shape : ∀ {k : Key} {v : Value}, keyIs k v = true → (∃ i t, k = Sum.inl i ∧ v = Value.int i t) ∨ (∃ x t, k = Sum.inr x ∧ v = Value.str x t)
  | .inl i, v, h => by
    obtain ⟨t, e⟩ := Value.isInt_shape (k := i) (v := v) h
    exact .inl ⟨i, t, rfl, e⟩
  | .inr x, v, h => by
    obtain ⟨t, e⟩ := Value.isStrOf_shape (x := x) (v := v) h
    exact .inr ⟨x, t, rfl, e⟩
theorem key_ll (a b : Int) : decide ((Sum.inl a : Key) = Sum.inl b) = (a == b) := by
  by_cases e : a = b
  · subst e; simp
  · have h : ¬ (Sum.inl a : Key) = Sum.inl b := fun q => e (Sum.inl.inj q)
    rw [decide_eq_false h]
    exact (beq_eq_false_iff_ne.mpr e).symm
theorem key_rr (a b : Str) : decide ((Sum.inr a : Key) = Sum.inr b) = decide (a = b) := by
  by_cases e : a = b
  · subst e; simp
  · have h : ¬ (Sum.inr a : Key) = Sum.inr b := fun q => e (Sum.inr.inj q)
    rw [decide_eq_false h, decide_eq_false e]
theorem key_lr (a : Int) (b : Str) : decide ((Sum.inl a : Key) = Sum.inr b) = false := decide_eq_false (fun q => nomatch q)
theorem key_rl (a : Str) (b : Int) : decide ((Sum.inr a : Key) = Sum.inl b) = false := decide_eq_false (fun q => nomatch q)
def mixKind (prog : Program) (w : World) : PySem.KeyKind prog w Key where
  is := keyIs
  hash := keyH w
  inj := fun v a b ha hb => by
    rcases keyIs_shape ha with ⟨i, t, rfl, rfl⟩ | ⟨x, t, rfl, rfl⟩
    · rcases keyIs_shape hb with ⟨j, u, rfl, e⟩ | ⟨y, u, rfl, e⟩
      · injection e with e1 _; rw [e1]
      · exact nomatch e
    · rcases keyIs_shape hb with ⟨j, u, rfl, e⟩ | ⟨y, u, rfl, e⟩
      · exact nomatch e
      · injection e with e1 _; rw [e1]
  byValue := fun k v h => by
    rcases keyIs_shape h with ⟨i, t, rfl, rfl⟩ | ⟨x, t, rfl, rfl⟩ <;> rfl
  pyHash := fun hv h => by
    rcases keyIs_shape hv with ⟨i, t, rfl, rfl⟩ | ⟨x, t, rfl, rfl⟩
    · exact wpAny_pyHash_int h
    · exact wpAny_pyHash_str h
  eqBool := fun hu hv h => by
    rcases keyIs_shape hu with ⟨i, t, rfl, rfl⟩ | ⟨x, t, rfl, rfl⟩
    · rcases keyIs_shape hv with ⟨j, u, rfl, rfl⟩ | ⟨y, u, rfl, rfl⟩
      · rw [key_ll] at h; exact wpAny_eqBool_int h
      · rw [key_lr] at h; exact SeqAt.EqAt.int_str i t y u _ _ _ _ h
    · rcases keyIs_shape hv with ⟨j, u, rfl, rfl⟩ | ⟨y, u, rfl, rfl⟩
      · rw [key_rl] at h; exact SeqAt.EqAt.str_int x t j u _ _ _ _ h
      · rw [key_rr] at h; exact wpAny_eqBool_str h
  «strs» := fun k x t v h => by
    rcases keyIs_shape h with ⟨i, u, rfl, e⟩ | ⟨y, u, rfl, e⟩
    · exact nomatch e
    · injection e with e1 _
      subst e1
      cases v <;> rfl
end L2
namespace L2
open PySem PySem.Spec PyProof.Rows
inductive V where
  | non | bl (b : Bool) | int (i : Int) | str (x : Str) | byt (b : Array UInt8) | flt (b : UInt64) | ref (a : Addr) | ty (n : String)
  deriving DecidableEq
def RelV : V → Value → Prop
  | .non, u => u = Value.none
  | .bl b, u => u = Value.bool b
  | .int i, u => ∃ t, u = Value.int i t
  | .str x, u => ∃ t, u = Value.str x t
  | .byt b, u => ∃ t, u = Value.bytes b t
  | .flt b, u => ∃ t, u = Value.float b t
  | .ref a, u => u = Value.ref a
  | .ty n, u => u = Value.type n
abbrev Vals : List V → List Value → Prop := Paired RelV
theorem Vals.length {xs : List V} {us : List Value} (r : Vals xs us) : xs.length = us.length := Paired.length r
theorem Vals.get : ∀ {xs : List V} {us : List Value} {i : Nat} {x : V}, Vals xs us → xs[i]? = some x → ∃ u, us[i]? = some u ∧ RelV x u
  | _, _, _, _, .nil, e => by simp at e
  | _, _, 0, _, .cons r _, e => by simp at e; subst e; exact ⟨_, rfl, r⟩
  | _, _, i + 1, x, .cons _ t, e => by
    obtain ⟨u, h1, h2⟩ := Vals.get (i := i) (x := x) t (by simpa using e)
    exact ⟨u, by simpa using h1, h2⟩
theorem Vals.set {x : V} {u : Value} (r : RelV x u) : ∀ {xs : List V} {us : List Value} (i : Nat), Vals xs us → Vals (xs.set i x) (us.set i u)
  | _, _, _, .nil => .nil
  | _, _, 0, .cons _ t => .cons r t
  | _, _, i + 1, .cons q t => .cons q (Vals.set r i t)
theorem Vals.append : ∀ {xs ys : List V} {us ws : List Value}, Vals xs us → Vals ys ws → Vals (xs ++ ys) (us ++ ws)
  | _, _, _, _, .nil, s => s
  | _, _, _, _, .cons r t, s => .cons r (Vals.append t s)
theorem Vals.take : ∀ {xs : List V} {us : List Value} (n : Nat), Vals xs us → Vals (xs.take n) (us.take n)
  | _, _, 0, _ => .nil
  | _, _, _ + 1, .nil => .nil
  | _, _, n + 1, .cons r t => .cons r (Vals.take n t)
theorem Vals.drop : ∀ {xs : List V} {us : List Value} (n : Nat), Vals xs us → Vals (xs.drop n) (us.drop n)
  | _, _, 0, r => r
  | _, _, _ + 1, .nil => .nil
  | _, _, n + 1, .cons _ t => Vals.drop n t
def RelO : Option V → Option Value → Prop
  | some v, some u => RelV v u
  | none, none => True
  | _, _ => False
def KV {κ : Type} : List (κ × V) → List (κ × Value) → Prop := Paired fun (p : κ × V) (q : κ × Value) => p.1 = q.1 ∧ RelV p.2 q.2
def kV : Key → V
  | .inl i => .int i
  | .inr x => .str x
inductive HO where
    | lst (xs : List V)
    | tup (xs : List V)
    | dK (kvs : List (Key × V)) | dT (kvs : List (List Key × V))
    | set (S : Int → Bool) (n : Nat)
    | ins (C dx : Addr) (fs : List (Str × V))
    | own (x : Addr)
    | xd (fs : List (Str × V))
    | met (f x : Addr)
    | rng (lo hi : Int)
    | frz (o : Obj) (u : HO)
    | tbl (ps : Array Value)
    | ext (φ : Heap → Prop)
abbrev Hp := Addr → Option HO
def upd (H : Hp) (a : Addr) (o : HO) : Hp := fun b => if b = a then some o else H b
theorem upd_same {H : Hp} {a : Addr} {o : HO} : upd H a o a = some o := by unfold upd; rw [if_pos rfl]
theorem upd_ne {H : Hp} {a b : Addr} {o : HO} (h : b ≠ a) : upd H a o b = H b := by unfold upd; rw [if_neg h]
theorem ne_of_none {H : Hp} {a b : Addr} {o : HO} (h : H a = some o) (h' : H b = none) : a ≠ b := by
  intro e; subst e; rw [h] at h'; cases h'
section
variable (P : Program) (w : World)
def ObjOk (H : Hp) (h : Heap) (a : Addr) : HO → Prop
  | .lst xs => xs.length ≤ sizeLine ∧ ∃ (its : List Value) (n : Nat), Vals xs its ∧ h.get? a = some { cls := .type "list", data := .seq its.toArray n }
  | .tup xs => xs.length ≤ sizeLine ∧ ∃ its : List Value, Vals xs its ∧ IsTup h a its.toArray
  | .dK kvs => kvs.length ≤ sizeLine ∧ (a == sysModules) = false ∧ ∃ vs, KV kvs vs ∧ h.DictOf (mixKind P w) a vs
  | .dT kvs => kvs.length ≤ sizeLine ∧ (a == sysModules) = false ∧ ∃ xs : List (List Key × Addr × Value),
      Paired (fun (p : List Key × V) (q : List Key × Addr × Value) => p.1 = q.1 ∧ H q.2.1 = some (.tup (p.1.map kV)) ∧ RelV p.2 q.2.2) kvs xs ∧
      ∃ o es ep, h.get? a = some o ∧ o.ExactDict ∧ o.data = .dict es ep ∧ es.toList = xs.map (entryOfKey (tupleKind (mixKind P w))) ∧ (xs.map (·.1)).Nodup
  | .set S n => h.SetOf (intKind P w) a S n
  | .ins C dx fs => H dx = some (.own a) ∧ fs.length ≤ 1000 ∧ dx ≠ a ∧ h.get? a = some (PySem.W.instObj C dx) ∧
      ∃ mA, h.Ns1 dx mA ∧ (∀ f, RelO (fs.lookup f) (mA f)) ∧ PySem.Within mA (fs.map (·.1))
  | .own _ => ∃ o, h.get? a = some o
  | .xd fs => ∃ mA, h.Ns1 a mA ∧ ∀ f, RelO (fs.lookup f) (mA f)
  | .rng lo hi => ∃ t u v, h.get? a = some { cls := .type "range", data := .fields #[.int lo t, .int hi u, .int 1 v] }
  | .frz o u => h.get? a = some o ∧ ObjOk H h a u
  | .tbl ps => h.get? a = some { cls := .none, data := .fields ps }
  | .met f x => h.get? a = some (PySem.W.methodObj (.ref f) (.ref x))
  | .ext φ => φ h ∧ (∃ o, h.get? a = some o) ∧ ∀ h1 h2 : Heap, φ h1 → (∀ o, h1.get? a = some o → h2.get? a = some o) → φ h2
def HOk (H : Hp) (h : Heap) : Prop := ∀ a o, H a = some o → ObjOk P w H h a o
end
section
variable {P : Program} {w : World} {H H' : Hp} {h h' : Heap} {a : Addr} {o : HO}
theorem ObjOk.lt (x : ObjOk P w H h a o) : a < h.objs.size := by
  cases o with
  | lst xs => obtain ⟨_, _, _, _, e⟩ := x; exact Heap.lt_size e
  | tup xs => obtain ⟨_, _, _, p⟩ := x; exact p.lt
  | dK kvs => obtain ⟨_, _, _, _, o, _, _, e, _⟩ := x; exact Heap.lt_size e
  | dT kvs => obtain ⟨_, _, _, _, o, _, _, e, _⟩ := x; exact Heap.lt_size e
  | set S n => obtain ⟨o, _, _, _, e, _⟩ := x; exact Heap.lt_size e
  | ins C dx fs => obtain ⟨_, _, _, e, _⟩ := x; exact Heap.lt_size e
  | own y => obtain ⟨_, e⟩ := x; exact Heap.lt_size e
  | xd fs => obtain ⟨_, ⟨_, _, _, e, _⟩, _⟩ := x; exact Heap.lt_size e
  | rng lo hi => obtain ⟨_, _, _, e⟩ := x; exact Heap.lt_size e
  | frz ob u => obtain ⟨e, _⟩ := x; exact Heap.lt_size e
  | tbl ps => exact Heap.lt_size (show h.get? a = some _ from x)
  | met f y => exact Heap.lt_size (show h.get? a = some _ from x)
  | ext φ => obtain ⟨_, ⟨_, e⟩, _⟩ := x; exact Heap.lt_size e
theorem Paired.mapP {α β : Type} {F G : α → β → Prop} : ∀ {l₁ : List α} {l₂ : List β}, Paired F l₁ l₂ → (∀ a b, F a b → G a b) → Paired G l₁ l₂
  | _, _, .nil, _ => .nil
  | _, _, .cons r t, f => .cons (f _ _ r) (Paired.mapP t f)
theorem ObjOk.stay (x : ObjOk P w H h a o) (k : ∀ b u, (b = a ∨ H b = some (.own a)) → h.get? b = some u → h'.get? b = some u)
    (ho : ∀ b, H b = some (.own a) → H' b = some (.own a)) (ht : ∀ b xs, H b = some (.tup xs) → H' b = some (.tup xs)) : ObjOk P w H' h' a o := by
  induction o with
  | lst xs => obtain ⟨z, its, n, r, e⟩ := x; exact ⟨z, its, n, r, k _ _ (.inl rfl) e⟩
  | tup xs => obtain ⟨z, its, r, ob, e, c⟩ := x; exact ⟨z, its, r, ob, k _ _ (.inl rfl) e, c⟩
  | dK kvs => obtain ⟨z, y, vs, r, ob, es, ep, e, c⟩ := x; exact ⟨z, y, vs, r, ob, es, ep, k _ _ (.inl rfl) e, c⟩
  | dT kvs =>
    obtain ⟨z, y, xs, r, ob, es, ep, e, c⟩ := x
    exact ⟨z, y, xs, Paired.mapP r fun p q z => ⟨z.1, ht _ _ z.2.1, z.2.2⟩, ob, es, ep, k _ _ (.inl rfl) e, c⟩
  | set S n => obtain ⟨ob, es, ep, t, e, c⟩ := x; exact ⟨ob, es, ep, t, k _ _ (.inl rfl) e, c⟩
  | ins C dx fs =>
    obtain ⟨d, z, ne, e, mA, ⟨od, es, ep, e2, c⟩, r⟩ := x
    exact ⟨ho _ d, z, ne, k _ _ (.inl rfl) e, mA, ⟨od, es, ep, k _ _ (.inr d) e2, c⟩, r⟩
  | own y => obtain ⟨ob, e⟩ := x; exact ⟨ob, k _ _ (.inl rfl) e⟩
  | xd fs => obtain ⟨mA, ⟨od, es, ep, e, c⟩, r⟩ := x; exact ⟨mA, ⟨od, es, ep, k _ _ (.inl rfl) e, c⟩, r⟩
  | rng lo hi => obtain ⟨t, u, v, e⟩ := x; exact ⟨t, u, v, k _ _ (.inl rfl) e⟩
  | frz ob u ih => obtain ⟨e, q⟩ := x; exact ⟨k _ _ (.inl rfl) e, ih q⟩
  | tbl ps =>
    have e : h.get? a = some { cls := .none, data := .fields ps } := x
    show h'.get? a = some { cls := .none, data := .fields ps }
    exact k a _ (.inl rfl) e
  | met f y =>
    have e : h.get? a = some (PySem.W.methodObj (.ref f) (.ref y)) := x
    show h'.get? a = some (PySem.W.methodObj (.ref f) (.ref y))
    exact k a _ (.inl rfl) e
  | ext φ => obtain ⟨p, ⟨o, e⟩, st⟩ := x; exact ⟨st _ _ p fun o q => k _ _ (.inl rfl) q, ⟨o, k _ _ (.inl rfl) e⟩, st⟩
theorem HOk.lt (x : HOk P w H h) (e : H a = some o) : a < h.objs.size := (x a o e).lt
theorem HOk.fresh (x : HOk P w H h) (e : h.objs.size ≤ a) : H a = none := by
  cases q : H a with
  | none => rfl
  | some u => exact absurd (Nat.lt_of_lt_of_le (x.lt q) e) (Nat.lt_irrefl _)
theorem HOk.kept (x : HOk P w H h) (k : ∀ b u, h.get? b = some u → h'.get? b = some u) : HOk P w H h' := fun a o e =>
  (x a o e).stay (fun b u _ q => k b u q) (fun _ q => q) fun _ _ q => q
theorem HOk.laid (x : HOk P w H h) (k : ∀ b u, h.get? b = some u → h'.get? b = some u) (hp : h.objs.size ≤ a) (new : ObjOk P w (upd H a o) h' a o) : HOk P w (upd H a o) h' := fun b u e => by
  have hn := x.fresh hp
  by_cases hb : b = a
  · subst hb; rw [upd_same] at e; cases e; exact new
  · rw [upd_ne hb] at e
    exact (x b u e).stay (fun c v _ q => k c v q) (fun c q => by rw [upd_ne (ne_of_none q hn)]; exact q) fun c xs q => by rw [upd_ne (ne_of_none q hn)]; exact q
end
def Rd (H : Hp) (a : Addr) (u : HO) : Prop := H a = some u ∨ ∃ o, H a = some (.frz o u)
theorem Rd.ok {P : Program} {w : World} {H : Hp} {h : Heap} {a : Addr} {u : HO} (r : Rd H a u) (x : HOk P w H h) : ObjOk P w H h a u := by
  rcases r with r | ⟨o, r⟩
  · exact x a u r
  · obtain ⟨_, q⟩ := x a _ r
    exact q
def Mut : Option HO → Prop
  | some (.lst _) => True
  | some (.dK _) => True
  | some (.dT _) => True
  | some (.set _ _) => True
  | some (.ins _ _ _) => True
  | some (.ext _) => True
  | _ => False
section
variable {P : Program} {w : World} {H : Hp} {h h' : Heap} {x e : Addr} {o' : HO}
theorem HOk.write (ok : HOk P w H h) (mu : Mut (H x)) (he : e = x ∨ H e = some (.own x)) (k : ∀ b u, b ≠ e → h.get? b = some u → h'.get? b = some u) (heo : ∃ u, h'.get? e = some u)
    (new : ObjOk P w (upd H x o') h' x o') : HOk P w (upd H x o') h' := fun b u q => by
  have nown : ∀ c y, H c = some (.own y) → c ≠ x := fun c y r z => by subst z; rw [r] at mu; exact mu
  have ntup : ∀ c xs, H c = some (.tup xs) → c ≠ x := fun c xs r z => by subst z; rw [r] at mu; exact mu
  by_cases hb : b = x
  · subst hb; rw [upd_same] at q; cases q; exact new
  · rw [upd_ne hb] at q
    by_cases hbe : b = e
    · have q' : H b = some (.own x) := by
        rcases he with z | z
        · exact absurd (hbe.trans z) hb
        · rw [hbe]; exact z
      rw [q] at q'; cases q'
      obtain ⟨v, hv⟩ := heo
      exact ⟨v, by rw [hbe]; exact hv⟩
    · refine (ok b u q).stay (fun c v hc r => k c v ?_ r) (fun c r => by rw [upd_ne (nown c b r)]; exact r) fun c xs r => by rw [upd_ne (ntup c xs r)]; exact r
      rcases hc with rfl | hc
      · exact hbe
      · rintro rfl
        rcases he with z | z
        · exact nown c b hc z
        · rw [hc] at z; cases z; exact hb rfl
end
structure Un (fs ex : List Addr) (H H' : Hp) (h h' : Heap) : Prop where
  keep : ∀ b o, h.get? b = some o → H b = none → b ∉ fs → b ∉ ex → h'.get? b = some o
  slot : ∀ b o, h.get? b = some o → H b = none → b ∈ fs → b ∉ ex → ∃ sl, h'.get? b = some { o with slots := sl }
  free : ∀ b o, h.get? b = some o → H b = none → b ∉ ex → H' b = none
  there : ∀ b o, h.get? b = some o → b ∉ ex → ∃ o', h'.get? b = some o'
  tups : ∀ b xs, H b = some (.tup xs) → H' b = some (.tup xs)
  frzs : ∀ b o u, H b = some (.frz o u) → H' b = some (.frz o u)
  tbls : ∀ b ps, H b = some (.tbl ps) → ∃ more, H' b = some (.tbl (ps ++ more))
section
variable {fs fs' ex ex' : List Addr} {H H1 H2 : Hp} {h h1 h2 h' : Heap} {a x e : Addr} {o : HO}
theorem Un.any (u : Un fs ex H H1 h h1) {b : Addr} {ob : Obj} (q : h.get? b = some ob) (n : H b = none) (hx : b ∉ ex) : ∃ sl, h1.get? b = some { ob with slots := sl } := by
  by_cases hb : b ∈ fs
  · exact u.slot b ob q n hb hx
  · exact ⟨ob.slots, u.keep b ob q n hb hx⟩
theorem Un.kept (k : ∀ b u, h.get? b = some u → h'.get? b = some u) : Un fs ex H H h h' :=
  ⟨fun b ob q _ _ _ => k b ob q, fun b ob q _ _ _ => ⟨ob.slots, k b ob q⟩, fun _ _ _ n _ => n, fun b ob q _ => ⟨ob, k b ob q⟩, fun _ _ q => q, fun _ _ _ q => q, fun _ ps q => ⟨#[], by rw [q]; simp⟩⟩
theorem Un.refl : Un fs ex H H h h := Un.kept fun _ _ q => q
theorem Un.laid (k : ∀ b u, h.get? b = some u → h'.get? b = some u) (hp : h.objs.size ≤ a) (hn : H a = none) : Un fs ex H (upd H a o) h h' where
  keep := fun b u q _ _ _ => k b u q
  slot := fun b u q _ _ _ => ⟨u.slots, k b u q⟩
  free := fun b u q n _ => by rw [upd_ne (Nat.ne_of_lt (Nat.lt_of_lt_of_le (Heap.lt_size q) hp))]; exact n
  there := fun b u q _ => ⟨u, k b u q⟩
  tups := fun b xs q => by rw [upd_ne (ne_of_none q hn)]; exact q
  frzs := fun b u xs q => by rw [upd_ne (ne_of_none q hn)]; exact q
  tbls := fun b ps q => ⟨#[], by rw [upd_ne (ne_of_none q hn), q]; simp⟩
theorem Un.write (mu : Mut (H x)) (he : e = x ∨ H e = some (.own x)) (k : ∀ b u, b ≠ e → h.get? b = some u → h'.get? b = some u) (heo : ∃ u, h'.get? e = some u) : Un fs ex H (upd H x o) h h' := by
  have hx : ∀ b, H b = none → b ≠ x := fun b n z => by subst z; rw [n] at mu; exact mu
  have hb : ∀ b, H b = none → b ≠ e := fun b n z => by
    subst z
    rcases he with r | r
    · exact hx b n r
    · rw [n] at r; cases r
  have hm : ∀ b u, H b = some u → ¬ Mut (some u) → b ≠ x := fun b u q nm z => by subst z; rw [q] at mu; exact nm mu
  refine ⟨fun b u q n _ _ => k b u (hb b n) q, fun b u q n _ _ => ⟨u.slots, k b u (hb b n) q⟩, fun b u q n _ => by rw [upd_ne (hx b n)]; exact n, fun b u q _ => ?_,
    fun b xs q => by rw [upd_ne (hm b _ q fun z => z)]; exact q, fun b u xs q => by rw [upd_ne (hm b _ q fun z => z)]; exact q, fun b ps q => ⟨#[], by rw [upd_ne (hm b _ q fun z => z), q]; simp⟩⟩
  by_cases hbe : b = e
  · subst hbe; exact heo
  · exact ⟨u, k b u hbe q⟩
end
def trk (h : Heap) (H : Hp) : List Addr := (List.range h.objs.size).filter fun a => (H a).isSome
def hidT (h : Heap) (H : Hp) : Heap := PySem.W.hideAll h (trk h H)
theorem hidT_size (h : Heap) (H : Hp) : (hidT h H).objs.size = h.objs.size := PySem.W.hideAll_size _ _
theorem hidT_get {h : Heap} {H : Hp} {b : Addr} {o : Obj} (e : h.get? b = some o) (n : H b = none) : (hidT h H).get? b = some o :=
  PySem.W.hideAll_get _ e fun hm => by
    have q : (H b).isSome = true := (List.mem_filter.mp hm).2
    rw [n] at q; simp at q
theorem of_hidT {h : Heap} {H : Hp} {b : Addr} {o : Obj} (e : (hidT h H).get? b = some o) : h.get? b = some o ∧ H b = none := by
  have e' : h.get? b = some o := PySem.W.of_hideAll (trk h H) e
  refine ⟨e', ?_⟩
  cases q : H b with
  | none => rfl
  | some x =>
    have hm : b ∈ trk h H := List.mem_filter.mpr ⟨List.mem_range.mpr (Heap.lt_size e'), by simp [q]⟩
    have z : (hidT h H).get? b = none := PySem.W.hideAll_none (trk h H) hm
    rw [z] at e; cases e
def allNews (g h : Heap) (L : Addr) : List (Addr × Obj) := (List.range h.objs.size).filterMap fun a => if a = L ∨ (g.get? a).isSome = true then none else (h.get? a).map fun o => (a, o)
def rest (g h : Heap) (L d : Addr) : List (Addr × Obj) := (allNews g h L).filter fun p => decide (p.1 ≠ d)
end L2
namespace L2
open PySem PySem.Spec PyProof.Rows
structure Mod (K : PySem.W.Frag) (mg : Str → Option Value) (base : Heap) : Prop where
  kin : K.In base
  glob : base.Ns mainGlobals mg
  blt : ∃ mb, base.Ns builtinsNs mb ∧ ∀ x : Str, x ≠ "__name__" → mb x = bootBuiltins x
  nolimit : base.NoLimit
structure Cx where
  prog : Program
  w : World
  K : PySem.W.Frag
  mg : Str → Option Value
  base : Heap
  A : Around
  N : List Str
  s₀ : Shared
  H₀ : Hp
  env : Env
  outer : List Env
  stack : List Env
  ex : List Addr
  fn : Str → Bool
  calm : Bool
  pn : List (Addr × Obj)
  xe : Value → Shared → Prop
def frs (l : List Env) : List Addr := l.filterMap (·.frame)
abbrev Cx.fs (X : Cx) : List Addr := frs X.outer
def Vis (sc : Scope) (x : Str) : Prop := sc.names.lookup x = some .local ∨ sc.names.lookup x = some .cell ∨ sc.names.lookup x = some .free
def Loc (sc : Scope) (x : Str) : Prop := sc.names.lookup x = some .local ∨ sc.names.lookup x = some .cell
def Look (env : Env) (h : Heap) (m : Str → Option Value) (x : Str) (u : Value) : Prop :=
  (env.kindOf x = some .local ∧ m x = some u) ∨ ((env.kindOf x = some .cell ∨ env.kindOf x = some .free) ∧ ∃ c, env.cells.lookup x = some c ∧ h.IsCell c (some u))
structure Cx.Ok (X : Cx) : Prop where
  mod : Mod X.K X.mg X.base
  kind : X.env.scope.kind = .function
  glob : X.env.globals = mainGlobals
  blt : X.env.builtins = builtinsNs
  above : X.s₀.heap.objs.size ≤ X.env.locals
  inj : ∀ x y c, X.env.cells.lookup x = some c → X.env.cells.lookup y = some c → x = y
  has : ∀ x, (X.env.kindOf x = some .cell ∨ X.env.kindOf x = some .free) → ∃ c, X.env.cells.lookup x = some c
  cab : ∀ x c, X.fn x = true → X.env.cells.lookup x = some c → X.s₀.heap.objs.size ≤ c
  hd : X.calm = true → X.A.handled = none
  frames : X.A.frames = some X.stack
  stk : X.stack = X.outer ∨ (X.stack = X.env :: X.outer ∧ X.env.frame = some X.env.locals)
  exf : ∀ b ∈ X.ex, b ≠ X.env.locals ∧ ∀ x c, X.env.cells.lookup x = some c → c ≠ b
  bs : ∀ b o, X.base.get? b = some o → X.s₀.heap.get? b = some o ∧ X.H₀ b = none
  bsz : X.base.objs.size ≤ X.s₀.heap.objs.size
  noex : ∀ b o, X.base.get? b = some o → b ∉ X.ex
  exfs : ∀ b ∈ X.ex, b ∉ X.fs
  funs : X.s₀.heap.FunFrames X.base X.outer
  frf : ∀ b ∈ X.fs, X.H₀ b = none
structure Inv (X : Cx) (pins : List (Addr × Obj)) (σ : List (Option V)) (H : Hp) (s : Shared) : Prop where
  ok : X.Ok
  os : s.os = X.s₀.os
  bare : AllBare s.gens
  base : Un X.fs X.ex X.H₀ H X.s₀.heap s.heap
  loc : ∃ m, s.heap.Ns X.env.locals m ∧ ∀ (i : Nat) (x : Str) (v : V), X.N[i]? = some x → σ[i]? = some (some v) → Vis X.env.scope x → ∃ u, RelV v u ∧ Look X.env s.heap m x u
  cell : ∀ x c, X.env.cells.lookup x = some c → ∃ v, s.heap.IsCell c v
  free : H X.env.locals = none
  freeC : ∀ x c, X.env.cells.lookup x = some c → H c = none
  pin : ∀ p ∈ X.pn ++ pins, s.heap.get? p.1 = some p.2 ∧ H p.1 = none ∧ p.1 ≠ X.env.locals ∧ p.1 ∉ X.fs ∧ ∀ v, p.2.data ≠ .cell v
  hok : HOk X.prog X.w H s.heap
  len : σ.length = X.N.length
section
variable {X : Cx} {pins : List (Addr × Obj)} {σ : List (Option V)} {H H' : Hp} {s : Shared} {h' : Heap}
theorem Cx.Ok.nofr (ok : X.Ok) {b : Addr} {o : Obj} (e : X.base.get? b = some o) : b ∉ X.fs := fun hb => by
  have := (ok.funs.mem hb).1
  rw [e] at this; cases this
theorem Inv.bs (I : Inv X pins σ H s) : ∀ b o, X.base.get? b = some o → s.heap.get? b = some o ∧ H b = none := fun b o e =>
  ⟨I.base.keep b o (I.ok.bs b o e).1 (I.ok.bs b o e).2 (I.ok.nofr e) (I.ok.noex b o e), I.base.free b o (I.ok.bs b o e).1 (I.ok.bs b o e).2 (I.ok.noex b o e)⟩
theorem Inv.bk (I : Inv X pins σ H s) : ∀ b o, X.base.get? b = some o → s.heap.get? b = some o := fun b o e => (I.bs b o e).1
theorem Inv.mod (I : Inv X pins σ H s) : Mod X.K X.mg X.base := I.ok.mod
theorem Inv.kIn (I : Inv X pins σ H s) : X.K.In s.heap := I.ok.mod.kin.keeps I.bk
theorem Inv.lt (I : Inv X pins σ H s) : X.env.locals < s.heap.objs.size := let ⟨_, hn, _⟩ := I.loc; hn.lt
theorem Inv.sz (I : Inv X pins σ H s) : X.s₀.heap.objs.size ≤ s.heap.objs.size := Nat.le_trans I.ok.above (Nat.le_of_lt I.lt)
theorem Inv.nofs (I : Inv X pins σ H s) {a : Addr} (h : s.heap.objs.size ≤ a) : a ∉ X.fs := fun hb => by
  obtain ⟨_, o, ho, _⟩ := I.ok.funs.mem hb
  exact absurd (Nat.lt_of_lt_of_le (Heap.lt_size ho) (Nat.le_trans I.sz h)) (Nat.lt_irrefl _)
theorem Inv.cne (I : Inv X pins σ H s) : ∀ x c, X.env.cells.lookup x = some c → c ≠ X.env.locals := fun x c e z => by
  obtain ⟨v, o, ho, hd⟩ := I.cell x c e
  obtain ⟨m, ⟨o', es, ep, ho', hd', _⟩, _⟩ := I.loc
  rw [z, ho'] at ho; cases ho; rw [hd'] at hd; cases hd
theorem Inv.funs (I : Inv X pins σ H s) : s.heap.FunFrames X.base X.outer := by
  have all : ∀ (l : List Env), (∀ b ∈ frs l, b ∈ X.fs) → X.s₀.heap.FunFrames X.base l → s.heap.FunFrames X.base l := by
    intro l
    induction l with
    | nil => intro _ _; trivial
    | cons env r ih =>
      intro hs hl
      obtain ⟨hk, ⟨L, o, hf, hn, ho, hd⟩, hr⟩ := hl
      have hL : L ∈ X.fs := hs L (by unfold frs; rw [List.filterMap_cons, hf]; exact List.mem_cons_self)
      obtain ⟨sl, e⟩ := I.base.slot L o ho (I.ok.frf L hL) hL fun z => I.ok.exfs L z hL
      exact ⟨hk, ⟨L, _, hf, hn, e, hd⟩, ih (fun b hb => hs b (by unfold frs; rw [List.filterMap_cons, hf]; exact List.mem_cons_of_mem _ hb)) hr⟩
  exact all X.outer (fun _ hb => hb) I.ok.funs
theorem Inv.stack (I : Inv X pins σ H s) : s.heap.FunFrames X.base X.stack := by
  rcases I.ok.stk with e | ⟨e, hf⟩
  · rw [e]; exact I.funs
  · rw [e]
    obtain ⟨m, hn, _⟩ := I.loc
    refine .cons (by rw [I.ok.kind]; decide) hf hn ?_ I.funs
    exact Heap.get?_none_of_le (Nat.le_trans I.ok.bsz I.ok.above)
theorem Inv.stkSub (I : Inv X pins σ H s) : ∀ b ∈ frs X.stack, b ∈ X.env.locals :: X.fs := fun b hb => by
  rcases I.ok.stk with e | ⟨e, hf⟩
  · rw [e] at hb; exact List.mem_cons_of_mem _ hb
  · rw [e] at hb
    unfold frs at hb
    rw [List.filterMap_cons, hf] at hb
    exact hb
theorem Inv.stkFree (I : Inv X pins σ H s) : ∀ b ∈ frs X.stack, H b = none := fun b hb => by
  rcases List.mem_cons.mp (I.stkSub b hb) with e | hb
  · rw [e]; exact I.free
  · obtain ⟨_, o, ho, _⟩ := I.ok.funs.mem hb
    exact I.base.free b o ho (I.ok.frf b hb) fun z => I.ok.exfs b z hb
theorem Inv.step {g' : Array GenState} {t' : Nat} {d' : Drawn} {ch : List Addr} (I : Inv X pins σ H s)
    (hch : ∀ b ∈ ch, (b ∈ X.ex ∨ X.s₀.heap.objs.size ≤ b) ∧ b ≠ X.env.locals ∧ (∀ x c, X.env.cells.lookup x = some c → c ≠ b) ∧ ∀ p ∈ X.pn ++ pins, p.1 ≠ b)
    (keep : ∀ b o, b ≠ X.env.locals → b ∉ X.fs → b ∉ ch → s.heap.get? b = some o → H b = none → h'.get? b = some o)
    (slot : ∀ b o, b ≠ X.env.locals → b ∈ X.fs → b ∉ ch → s.heap.get? b = some o → H b = none → ∃ sl, h'.get? b = some { o with slots := sl }) (free : ∀ b o, b ∉ ch → s.heap.get? b = some o → H b = none → H' b = none)
    (there : ∀ b o, b ∉ ch → s.heap.get? b = some o → ∃ o', h'.get? b = some o')
    (tups : ∀ b xs, H b = some (.tup xs) → H' b = some (.tup xs)) (frzs : ∀ b o u, H b = some (.frz o u) → H' b = some (.frz o u)) (tbls : ∀ b ps, H b = some (.tbl ps) → ∃ more, H' b = some (.tbl (ps ++ more)))
    (ns : ∀ m, s.heap.Ns X.env.locals m → h'.Ns X.env.locals m) (hok : HOk X.prog X.w H' h') (hg : AllBare g') :
    Inv X pins σ H' { s with heap := h', gens := g', drawn := d', toks := t' } := by
  have neL : ∀ b o, X.s₀.heap.get? b = some o → b ≠ X.env.locals := fun b o e => Nat.ne_of_lt (Nat.lt_of_lt_of_le (Heap.lt_size e) I.ok.above)
  have neC : ∀ b o, X.s₀.heap.get? b = some o → b ∉ X.ex → b ∉ ch := fun b o e hx hb => by
    rcases (hch b hb).1 with z | z
    · exact hx z
    · exact absurd (Nat.lt_of_lt_of_le (Heap.lt_size e) z) (Nat.lt_irrefl _)
  have cellK : ∀ x c, X.env.cells.lookup x = some c → ∀ v, s.heap.IsCell c v → h'.IsCell c v := fun x c e v ⟨o, ho, hd⟩ => by
    have nch : c ∉ ch := fun z => (hch c z).2.2.1 x c e rfl
    by_cases hc : c ∈ X.fs
    · obtain ⟨sl, q⟩ := slot c o (I.cne x c e) hc nch ho (I.freeC x c e)
      exact ⟨_, q, hd⟩
    · exact ⟨o, keep c o (I.cne x c e) hc nch ho (I.freeC x c e), hd⟩
  refine ⟨I.ok, I.os, hg, ⟨fun b o e n hb hx => ?_, fun b o e n hb hx => ?_, fun b o e n hx => ?_, fun b o e hx => ?_, fun b xs e => tups b xs (I.base.tups b xs e), fun b o xs e => frzs b o xs (I.base.frzs b o xs e), fun b ps e => ?_⟩, ?_, fun x c e => ?_, ?_, fun x c e => ?_, fun p hp => ?_, hok, I.len⟩
  · exact keep b o (neL b o e) hb (neC b o e hx) (I.base.keep b o e n hb hx) (I.base.free b o e n hx)
  · obtain ⟨sl, e1⟩ := I.base.slot b o e n hb hx
    obtain ⟨sl', e2⟩ := slot b _ (neL b o e) hb (neC b o e hx) e1 (I.base.free b o e n hx)
    exact ⟨sl', e2⟩
  · obtain ⟨o', e1⟩ := I.base.there b o e hx
    exact free b o' (neC b o e hx) e1 (I.base.free b o e n hx)
  · obtain ⟨o', e1⟩ := I.base.there b o e hx
    exact there b o' (neC b o e hx) e1
  · obtain ⟨m1, e1⟩ := I.base.tbls b ps e
    obtain ⟨m2, e2⟩ := tbls b _ e1
    exact ⟨m1 ++ m2, by rw [e2, Array.append_assoc]⟩
  · obtain ⟨m, hn, hl⟩ := I.loc
    refine ⟨m, ns m hn, fun i x v e1 e2 e3 => ?_⟩
    obtain ⟨u, r, l⟩ := hl i x v e1 e2 e3
    refine ⟨u, r, ?_⟩
    rcases l with l | ⟨k, c, e, z⟩
    · exact .inl l
    · exact .inr ⟨k, c, e, cellK x c e _ z⟩
  · obtain ⟨v, z⟩ := I.cell x c e
    exact ⟨v, cellK x c e v z⟩
  · obtain ⟨m, ⟨o, _, _, ho, _⟩, _⟩ := I.loc
    exact free _ o (fun z => (hch _ z).2.1 rfl) ho I.free
  · obtain ⟨v, o, ho, hd⟩ := I.cell x c e
    exact free c o (fun z => (hch c z).2.2.1 x c e rfl) ho (I.freeC x c e)
  · obtain ⟨e, n, ne, nf, d⟩ := I.pin p hp
    have nch : p.1 ∉ ch := fun z => (hch p.1 z).2.2.2 p hp rfl
    exact ⟨keep p.1 p.2 ne nf nch e n, free p.1 p.2 nch e n, ne, nf, d⟩
theorem Inv.un {t' : Nat} (I : Inv X pins σ H s) (u : Un X.fs [] H H' s.heap h') (hok : HOk X.prog X.w H' h') : Inv X pins σ H' { s with heap := h', toks := t' } := by
  obtain ⟨m, ⟨o, es, ep, ho, r⟩, _⟩ := id I.loc
  obtain ⟨sl, hL⟩ := u.any ho I.free (by simp)
  exact I.step (g' := s.gens) (d' := s.drawn) (ch := []) (fun _ z => nomatch z) (fun b o _ hb _ e n => u.keep b o e n hb (by simp)) (fun b o _ hb _ e n => u.slot b o e n hb (by simp)) (fun b o _ e n => u.free b o e n (by simp)) (fun b o _ e => u.there b o e (by simp)) u.tups u.frzs u.tbls (fun m' hm => by
    obtain ⟨o', es', ep', ho', r'⟩ := hm
    rw [ho] at ho'; cases ho'
    exact ⟨_, es', ep', hL, r'⟩) hok I.bare
theorem Inv.call {g' : Array GenState} {t' : Nat} {d' : Drawn} {ch : List Addr} (I : Inv X pins σ H s) (u : Un (frs X.stack) ch H H' s.heap h') (hok : HOk X.prog X.w H' h') (hg : AllBare g')
    (hch : ∀ b ∈ ch, (b ∈ X.ex ∨ X.s₀.heap.objs.size ≤ b) ∧ b ≠ X.env.locals ∧ (∀ x c, X.env.cells.lookup x = some c → c ≠ b) ∧ ∀ p ∈ X.pn ++ pins, p.1 ≠ b) :
    Inv X pins σ H' { s with heap := h', gens := g', drawn := d', toks := t' } := by
  obtain ⟨m, ⟨o, es, ep, ho, r⟩, _⟩ := id I.loc
  obtain ⟨sl, hL⟩ := u.any ho I.free fun z => (hch _ z).2.1 rfl
  exact I.step (ch := ch) hch (fun b o hL hb hc e n => u.keep b o e n (fun z => (List.mem_cons.mp (I.stkSub b z)).elim hL hb) hc) (fun b o _ _ hc e n => u.any e n hc) (fun b o hc e n => u.free b o e n hc) (fun b o hc e => u.there b o e hc) u.tups u.frzs u.tbls (fun m' hm => by
    obtain ⟨o', es', ep', ho', r'⟩ := hm
    rw [ho] at ho'; cases ho'
    exact ⟨_, es', ep', hL, r'⟩) hok hg
theorem Inv.turned {t' : Nat} {it : Addr} (I : Inv X pins σ H s) (k : ∀ b o, b ≠ it → s.heap.get? b = some o → h'.get? b = some o) (hn : H it = none) (hL : it ≠ X.env.locals)
    (h1 : it ∈ X.ex ∨ X.s₀.heap.objs.size ≤ it) (h2 : ∀ x c, X.env.cells.lookup x = some c → c ≠ it) (h3 : ∀ p ∈ X.pn ++ pins, p.1 ≠ it) : Inv X pins σ H { s with heap := h', toks := t' } := by
  have nit : ∀ b u, H b = some u → b ≠ it := fun b u e z => by rw [z, hn] at e; cases e
  refine I.step (g' := s.gens) (d' := s.drawn) (ch := [it]) (fun b hb => ?_) (fun b o _ _ hc e _ => k b o (fun z => hc (by simp [z])) e) (fun b o _ _ hc e _ => ⟨o.slots, k b o (fun z => hc (by simp [z])) e⟩) (fun _ _ _ _ n => n)
    (fun b o hc e => ⟨o, k b o (fun z => hc (by simp [z])) e⟩) (fun _ _ e => e) (fun _ _ _ e => e) (fun b ps e => ⟨#[], by rw [e]; simp⟩) (fun m hm => ?_) (fun b u e => ?_) I.bare
  · have e : b = it := by simpa using hb
    subst e
    exact ⟨h1, hL, h2, h3⟩
  · obtain ⟨o, es, ep, ho, r⟩ := hm
    exact ⟨o, es, ep, k _ o (Ne.symm hL) ho, r⟩
  · refine (I.hok b u e).stay (fun c v hc q => k c v ?_ q) (fun _ q => q) fun _ _ q => q
    rcases hc with z | z
    · rw [z]; exact nit b u e
    · exact nit c _ z
theorem Inv.tok (I : Inv X pins σ H s) (t : Nat) : Inv X pins σ H { s with toks := t } := I.un (h' := s.heap) (t' := t) Un.refl I.hok
theorem Inv.kept {t' : Nat} (I : Inv X pins σ H s) (k : ∀ b u, s.heap.get? b = some u → h'.get? b = some u) : Inv X pins σ H { s with heap := h', toks := t' } := I.un (Un.kept k) (I.hok.kept k)
theorem Inv.laid {a : Addr} {o : HO} {t' : Nat} (I : Inv X pins σ H s) (k : ∀ b u, s.heap.get? b = some u → h'.get? b = some u) (hp : s.heap.objs.size ≤ a) (new : ObjOk X.prog X.w (upd H a o) h' a o) :
    Inv X pins σ (upd H a o) { s with heap := h', toks := t' } := I.un (Un.laid k hp (I.hok.fresh hp)) (I.hok.laid k hp new)
theorem Inv.write {x e : Addr} {o : HO} {t' : Nat} (I : Inv X pins σ H s) (mu : Mut (H x)) (he : e = x ∨ H e = some (.own x)) (k : ∀ b u, b ≠ e → s.heap.get? b = some u → h'.get? b = some u) (heo : ∃ u, h'.get? e = some u)
    (new : ObjOk X.prog X.w (upd H x o) h' x o) : Inv X pins σ (upd H x o) { s with heap := h', toks := t' } := I.un (Un.write mu he k heo) (I.hok.write mu he k heo new)
theorem Inv.pins_of {pins' : List (Addr × Obj)} (I : Inv X pins σ H s) (h : ∀ p ∈ pins', s.heap.get? p.1 = some p.2 ∧ H p.1 = none ∧ p.1 ≠ X.env.locals ∧ p.1 ∉ X.fs ∧ ∀ v, p.2.data ≠ .cell v) : Inv X pins' σ H s :=
  ⟨I.ok, I.os, I.bare, I.base, I.loc, I.cell, I.free, I.freeC, fun p hp => (List.mem_append.mp hp).elim (fun z => I.pin p (List.mem_append_left _ z)) (h p), I.hok, I.len⟩
theorem nodup_ix {N : List Str} (hN : N.Nodup) {i j : Nat} {x : Str} (a : N[i]? = some x) (b : N[j]? = some x) : i = j := by
  obtain ⟨h1, e1⟩ := List.getElem?_eq_some_iff.mp a
  obtain ⟨h2, e2⟩ := List.getElem?_eq_some_iff.mp b
  exact (List.getElem_inj hN).mp (e1.trans e2.symm)
theorem store_ok2 {M : Model} {A : Around} {E : Value → Shared → Prop} {i : Nat} {x : Str} {v : V} {u : Value} {Q : Unit → Shared → Prop} (I : Inv X pins σ H s) (hN : X.N.Nodup) (hi : X.N[i]? = some x) (hx : Loc X.env.scope x) (r : RelV v u)
    (h : ∀ s', Inv X pins (σ.set i (some v)) H s' → (∃ a, Heap.SameBut a s.heap s'.heap ∧ (a = X.env.locals ∨ X.env.cells.lookup x = some a)) → Q () s') (hf : X.fn x = true ∨ X.env.scope.names.lookup x = some .local := by first | exact .inl rfl | exact .inr rfl | assumption) : wpAny M A (storeName X.env x u) Q E s := by
  obtain ⟨m, hn, hl⟩ := id I.loc
  have hcls : (X.env.scope.kind == .class || (X.env.scope.kind == .module && X.env.locals != X.env.globals)) = false := by rw [I.ok.kind]; rfl
  have hiσ : i < σ.length := by rw [I.len]; exact (List.getElem?_eq_some_iff.mp hi).1
  have cne := I.cne
  have tracked : ∀ {a : Addr} {h' : Heap}, (∃ o, s.heap.get? a = some o ∧ H a = none) → Heap.SameBut a s.heap h' → HOk X.prog X.w H h' := fun {a h'} ha hs b ob e => by
    obtain ⟨_, _, hfree⟩ := ha
    refine (I.hok b ob e).stay (fun c w' hc q => (hs.2 c ?_).trans q) (fun _ q => q) fun _ _ q => q
    rintro rfl
    rcases hc with rfl | hc
    · rw [hfree] at e; cases e
    · rw [hfree] at hc; cases hc
  rcases hx with hk | hk
  · refine wpAny_storeName_local hk hn (fun h' hn' hs => ?_) hcls
    obtain ⟨oL, _, _, hoL, _⟩ := id hn
    refine h _ ⟨I.ok, I.os, I.bare, ⟨fun b o e n hb hx => ?_, fun b o e n hb hx => ?_, I.base.free, fun b o e hx => ?_, I.base.tups, I.base.frzs, I.base.tbls⟩, ⟨_, hn', fun j y v' e1 e2 e3 => ?_⟩, fun y c e => ?_, I.free, I.freeC, fun p hp => ?_, tracked ⟨oL, hoL, I.free⟩ hs, by simpa using I.len⟩ ⟨_, hs, .inl rfl⟩
    · exact (hs.2 b (Nat.ne_of_lt (Nat.lt_of_lt_of_le (Heap.lt_size e) I.ok.above))).trans (I.base.keep b o e n hb hx)
    · obtain ⟨sl, e1⟩ := I.base.slot b o e n hb hx
      exact ⟨sl, (hs.2 b (Nat.ne_of_lt (Nat.lt_of_lt_of_le (Heap.lt_size e) I.ok.above))).trans e1⟩
    · obtain ⟨o', e1⟩ := I.base.there b o e hx
      exact ⟨o', (hs.2 b (Nat.ne_of_lt (Nat.lt_of_lt_of_le (Heap.lt_size e) I.ok.above))).trans e1⟩
    · by_cases hj : j = i
      · subst hj
        rw [hi] at e1; cases e1
        rw [List.getElem?_set_self hiσ] at e2
        cases e2
        exact ⟨u, r, .inl ⟨hk, by simp⟩⟩
      · rw [List.getElem?_set_ne (Ne.symm hj)] at e2
        obtain ⟨u', r', q⟩ := hl j y v' e1 e2 e3
        refine ⟨u', r', ?_⟩
        rcases q with ⟨k, e⟩ | ⟨k, c, e, z⟩
        · refine .inl ⟨k, ?_⟩
          have : y ≠ x := fun e => hj (nodup_ix hN e1 (e ▸ hi))
          simp [this, e]
        · exact .inr ⟨k, c, e, z.sameBut hs (cne y c e)⟩
    · obtain ⟨w', z⟩ := I.cell y c e
      exact ⟨w', z.sameBut hs (cne y c e)⟩
    · obtain ⟨e, n, ne, nf, d⟩ := I.pin p hp
      exact ⟨(hs.2 p.1 ne).trans e, n, ne, nf, d⟩
  · have hfn : X.fn x = true := by
      rcases hf with z | z
      · exact z
      · rw [z] at hk; cases hk
    obtain ⟨c, hc⟩ := I.ok.has x (.inl hk)
    obtain ⟨w', z⟩ := I.cell x c hc
    refine wpAny_storeName_cell I.ok.kind hk hc z (fun h' hc' hs => ?_)
    obtain ⟨oc, hoc, hocd⟩ := id z
    refine h { s with heap := h' } ⟨I.ok, I.os, I.bare, ⟨fun b o e n hb hx => ?_, fun b o e n hb hx => ?_, I.base.free, fun b o e hx => ?_, I.base.tups, I.base.frzs, I.base.tbls⟩, ⟨m, hn.sameBut hs (Ne.symm (cne x c hc)), fun j y v' e1 e2 e3 => ?_⟩, fun y c' e => ?_, I.free, I.freeC, fun p hp => ?_, tracked ⟨oc, hoc, I.freeC x c hc⟩ hs, by simpa using I.len⟩ ⟨c, hs, .inr hc⟩
    · exact (hs.2 b (Nat.ne_of_lt (Nat.lt_of_lt_of_le (Heap.lt_size e) (I.ok.cab x c hfn hc)))).trans (I.base.keep b o e n hb hx)
    · obtain ⟨sl, e1⟩ := I.base.slot b o e n hb hx
      exact ⟨sl, (hs.2 b (Nat.ne_of_lt (Nat.lt_of_lt_of_le (Heap.lt_size e) (I.ok.cab x c hfn hc)))).trans e1⟩
    · obtain ⟨o', e1⟩ := I.base.there b o e hx
      exact ⟨o', (hs.2 b (Nat.ne_of_lt (Nat.lt_of_lt_of_le (Heap.lt_size e) (I.ok.cab x c hfn hc)))).trans e1⟩
    · by_cases hj : j = i
      · subst hj
        rw [hi] at e1; cases e1
        rw [List.getElem?_set_self hiσ] at e2
        cases e2
        exact ⟨u, r, .inr ⟨.inl hk, c, hc, hc'⟩⟩
      · rw [List.getElem?_set_ne (Ne.symm hj)] at e2
        obtain ⟨u', r', q⟩ := hl j y v' e1 e2 e3
        refine ⟨u', r', ?_⟩
        rcases q with q | ⟨k, c', e, z'⟩
        · exact .inl q
        · refine .inr ⟨k, c', e, z'.sameBut hs ?_⟩
          rintro rfl
          exact hj (nodup_ix hN e1 (I.ok.inj _ _ _ e hc ▸ hi))
    · by_cases hcc : c' = c
      · subst hcc; exact ⟨_, hc'⟩
      · obtain ⟨w2, z2⟩ := I.cell y c' e
        exact ⟨w2, z2.sameBut hs hcc⟩
    · obtain ⟨e, n, ne, nf, d⟩ := I.pin p hp
      refine ⟨(hs.2 p.1 ?_).trans e, n, ne, nf, d⟩
      intro q
      rw [q, hoc] at e
      have q' : oc = p.2 := Option.some.inj e
      exact d w' (by rw [← q']; exact hocd)
theorem store_ok {M : Model} {A : Around} {E : Value → Shared → Prop} {i : Nat} {x : Str} {v : V} {u : Value} {Q : Unit → Shared → Prop} (I : Inv X pins σ H s) (hN : X.N.Nodup) (hi : X.N[i]? = some x) (hx : Loc X.env.scope x) (r : RelV v u)
    (h : ∀ s', Inv X pins (σ.set i (some v)) H s' → Q () s') (hf : X.fn x = true ∨ X.env.scope.names.lookup x = some .local := by first | exact .inl rfl | exact .inr rfl | assumption) : wpAny M A (storeName X.env x u) Q E s :=
  store_ok2 I hN hi hx r (fun s' I' _ => h s' I') hf
theorem Inv.call' {s' : Shared} {ch : List Addr} (I : Inv X pins σ H s) (ho : s'.os = s.os) (u : Un (frs X.stack) ch H H' s.heap s'.heap) (hok : HOk X.prog X.w H' s'.heap) (hg : AllBare s'.gens)
    (hch : ∀ b ∈ ch, (b ∈ X.ex ∨ X.s₀.heap.objs.size ≤ b) ∧ b ≠ X.env.locals ∧ (∀ x c, X.env.cells.lookup x = some c → c ≠ b) ∧ ∀ p ∈ X.pn ++ pins, p.1 ≠ b) : Inv X pins σ H' s' := by
  obtain ⟨h', g', d', t', o'⟩ := s'
  have e : o' = s.os := ho
  subst e
  exact I.call (g' := g') (t' := t') (d' := d') u hok hg hch
end
abbrev XK := Value → Option Addr → Hp → Prop
abbrev St := List (Option V)
abbrev VK := V → Hp → Prop
abbrev TE := St → Hp → VK → Prop
abbrev TT := St → Hp → (Bool → Hp → Prop) → Prop
abbrev TA := St → Hp → (List V → Hp → Prop) → Prop
structure Ends where
  nx : St → Hp → Prop
  rt : VK
  bk : St → Hp → Prop := fun _ _ => False
  ct : St → Hp → Prop := fun _ _ => False
abbrev TS := Ends → St → Hp → Prop
def EP (X : Cx) (pins : List (Addr × Obj)) (σ : St) (Q : VK) (u : Value) (s' : Shared) : Prop := ∃ v H', Inv X pins σ H' s' ∧ RelV v u ∧ Q v H'
def TP (X : Cx) (pins : List (Addr × Obj)) (σ : St) (Q : Bool → Hp → Prop) (b : Bool) (s' : Shared) : Prop := ∃ H', Inv X pins σ H' s' ∧ Q b H'
def AP (X : Cx) (pins : List (Addr × Obj)) (σ : St) (Q : List V → Hp → Prop) (us : List Value) (s' : Shared) : Prop := ∃ vs H', Inv X pins σ H' s' ∧ Vals vs us ∧ Q vs H'
def SP (X : Cx) (pins : List (Addr × Obj)) (D : Ends) (f : Flow) (s' : Shared) : Prop :=
  match f with
  | .next => ∃ σ' H', Inv X pins σ' H' s' ∧ D.nx σ' H'
  | .brk => ∃ σ' H', Inv X pins σ' H' s' ∧ D.bk σ' H'
  | .cont => ∃ σ' H', Inv X pins σ' H' s' ∧ D.ct σ' H'
  | .ret u => ∃ v σ' H', Inv X pins σ' H' s' ∧ RelV v u ∧ D.rt v H'
def PE (X : Cx) (e : Expr) (t : TE) : Prop :=
  ∀ (pins : List (Addr × Obj)) (s : Shared) (σ : St) (H : Hp) (Q : VK), Inv X pins σ H s → t σ H Q → wpAny (model X.prog X.w) X.A (eval e X.env) (EP X pins σ Q) X.xe s
def PT (X : Cx) (e : Expr) (t : TT) : Prop :=
  ∀ (pins : List (Addr × Obj)) (s : Shared) (σ : St) (H : Hp) (Q : Bool → Hp → Prop), Inv X pins σ H s → t σ H Q → wpAny (model X.prog X.w) X.A (isTrue e X.env (eval e X.env)) (TP X pins σ Q) X.xe s
def PW (X : Cx) (e : Expr) (t : TT) : Prop :=
  ∀ (whole : Sem Value) (pins : List (Addr × Obj)) (s : Shared) (σ : St) (H : Hp) (Q : Bool → Hp → Prop), Inv X pins σ H s → t σ H Q → wpAny (model X.prog X.w) X.A (isTrue e X.env whole) (TP X pins σ Q) X.xe s
theorem PW.pt {X : Cx} {e : Expr} {t : TT} (h : PW X e t) : PT X e t := h _
def PA (X : Cx) (es : List Expr) (t : TA) : Prop :=
  ∀ (pos : Pos) (pins : List (Addr × Obj)) (s : Shared) (σ : St) (H : Hp) (Q : List V → Hp → Prop), Inv X pins σ H s → t σ H Q → wpAny (model X.prog X.w) X.A (spliced (backTo pos (starEach es X.env))) (AP X pins σ Q) X.xe s
def PS (X : Cx) (st : Stmt) (t : TS) : Prop :=
  ∀ (pins : List (Addr × Obj)) (s : Shared) (σ : St) (H : Hp) (D : Ends), Inv X pins σ H s → t D σ H → wpAny (model X.prog X.w) X.A (exec st X.env) (SP X pins D) X.xe s
def PSs (X : Cx) (st : List Stmt) (t : TS) : Prop :=
  ∀ (pins : List (Addr × Obj)) (s : Shared) (σ : St) (H : Hp) (D : Ends), Inv X pins σ H s → t D σ H → wpAny (model X.prog X.w) X.A (execs st X.env) (SP X pins D) X.xe s
theorem thn {α : Type} {t : Sem α} {Q Q' : α → Shared → Prop} {M : Model} {A : Around} {E : Value → Shared → Prop} {s : Shared} (h : wpAny M A t Q E s) (hQ : ∀ a s, Q a s → Q' a s) : wpAny M A t Q' E s := wpAny_mono h hQ fun _ _ x => x
end L2
namespace L2
open PySem PySem.Spec PyProof.Rows
section
variable {X : Cx}
def tVar (i : Nat) : TE := fun σ H Q => ∃ v, σ[i]? = some (some v) ∧ Q v H
def tC (v : V) : TE := fun _ H Q => Q v H
theorem pe_var {i : Nat} {x : Str} {pos : Pos} (hN : X.N[i]? = some x) (hv : Vis X.env.scope x) (hd : (x == ("__debug__" : Str)) = false := by decide) (hcd : (x == ("__classdict__" : Str)) = false := by decide) : PE X (.Name x pos) (tVar i) := by
  intro pins s σ H Q I h
  obtain ⟨v, e, h⟩ := h
  obtain ⟨m, hn, hl⟩ := I.loc
  obtain ⟨u, r, l⟩ := hl i x v hN e hv
  have fin : EP X pins σ Q u s := ⟨v, H, I, r, h⟩
  rcases l with ⟨hk, hm⟩ | ⟨hk, c, hc, hcell⟩
  · exact wpAny_Name (wpAny_loadName_local I.ok.kind hk hn hm fin) hd
  · rcases hk with hk | hk
    · exact wpAny_Name (wpAny_loadName_cell I.ok.kind hk hc hcell fin) hd
    · exact wpAny_Name (wpAny_loadName_free I.ok.kind hk hc hcell fin hcd) hd
theorem pe_int {i j pos} : PE X (.Constant (.int i) j pos) (tC (.int i)) := fun _ _ _ H _ I h => wpAny_Constant_int ⟨.int i, H, I.tok _, ⟨_, rfl⟩, h⟩
theorem pe_bl {b j pos} : PE X (.Constant (.bool b) j pos) (tC (.bl b)) := fun _ _ _ H _ I h => Constant_bool ⟨.bl b, H, I, rfl, h⟩
theorem pe_non {j pos} : PE X (.Constant .none j pos) (tC .non) := fun _ _ _ H _ I h => Constant_none ⟨.non, H, I, rfl, h⟩
theorem pe_str {x j pos} : PE X (.Constant (.str x) j pos) (tC (.str x)) := fun _ _ _ H _ I h => Calls.Constant_str ⟨.str x, H, I.tok _, ⟨_, rfl⟩, h⟩
def Gl (X : Cx) (x : Str) : Prop := X.env.kindOf x = some .globalImplicit
theorem ld_glob {E : Value → Shared → Prop} {pins : List (Addr × Obj)} {s : Shared} {σ : St} {H : Hp} {x : Str} {u : Value} {pos : Pos} {Q : Value → Shared → Prop} (I : Inv X pins σ H s) (hg : Gl X x) (hm : X.mg x = some u) (h : Q u s)
    (hd : (x == ("__debug__" : Str)) = false := by decide) : wpAny (model X.prog X.w) X.A (eval (.Name x pos) X.env) Q E s :=
  Calls.Name_function_global I.ok.kind hg (Calls.loadGlobal_global (by rw [I.ok.glob]; exact I.mod.glob.keeps I.bk) hm h) hd
theorem ld_blt {E : Value → Shared → Prop} {pins : List (Addr × Obj)} {s : Shared} {σ : St} {H : Hp} {x : Str} {u : Value} {pos : Pos} {Q : Value → Shared → Prop} (I : Inv X pins σ H s) (hg : Gl X x) (hm : X.mg x = none) (hv : bootBuiltins x = some u) (h : Q u s)
    (hn : x ≠ "__name__" := by decide) (hd : (x == ("__debug__" : Str)) = false := by decide) : wpAny (model X.prog X.w) X.A (eval (.Name x pos) X.env) Q E s := by
  obtain ⟨mb, h1, h2⟩ := I.mod.blt
  exact Calls.Name_function_global I.ok.kind hg (Calls.loadGlobal_builtin (by rw [I.ok.glob]; exact I.mod.glob.keeps I.bk) hm (by rw [I.ok.blt]; exact h1.keeps I.bk) ((h2 x hn).trans hv) h) hd
theorem pe_glob {x : Str} {v : V} {u : Value} {pos : Pos} (hg : Gl X x) (hm : X.mg x = some u) (r : RelV v u) (hd : (x == ("__debug__" : Str)) = false := by decide) : PE X (.Name x pos) (tC v) :=
  fun _ _ _ H _ I h => ld_glob I hg hm ⟨v, H, I, r, h⟩ hd
theorem pe_bltn {x : Str} {v : V} {u : Value} {pos : Pos} (hg : Gl X x) (hm : X.mg x = none) (hv : bootBuiltins x = some u) (r : RelV v u) (hn : x ≠ "__name__" := by decide) (hd : (x == ("__debug__" : Str)) = false := by decide) : PE X (.Name x pos) (tC v) :=
  fun _ _ _ H _ I h => ld_blt I hg hm hv ⟨v, H, I, r, h⟩ hn hd
variable {a b : Expr} {ta tb : TE} {pos : Pos}
def tB (t : TE) : TT := fun σ H Q => t σ H fun x H1 => ∃ c, x = .bl c ∧ Q c H1
theorem pt_val {e : Expr} {t : TE} (h : PE X e t) (he : ∀ whole, isTrue e X.env whole = (do let v ← whole; standAt e.pos; holding [v] (truthy v)) := by intro _; rfl) : PT X e (tB t) := by
  intro pins s σ H Q I hw
  refine isTrue_plain (thn (h pins s σ H _ I hw) fun v s1 ⟨x, H1, I1, r1, q1⟩ => ?_) (he _)
  obtain ⟨d, rfl, q⟩ := q1
  cases r1
  exact wpAny_truthy_bool ⟨H1, I1, q⟩
variable {tA tB' : TT} {rest : List Expr}
def tAnd (t u : TT) : TT := fun σ H Q => t σ H fun c H1 => if c = true then u σ H1 Q else Q false H1
def tOr (t u : TT) : TT := fun σ H Q => t σ H fun c H1 => if c = true then Q true H1 else u σ H1 Q
def tNot (t : TT) : TT := fun σ H Q => t σ H fun c H1 => Q (!c) H1
theorem pw_and1 (ha : PT X a tA) : PW X (.BoolOp .And [a] pos) tA := by
  intro wh pins s σ H Q I h
  refine isTrue_and (thn (ha pins s σ H Q I h) fun c s1 e => ?_)
  cases c with
  | true => exact isTrue_and_nil e
  | false => exact e
theorem pw_or1 (ha : PT X a tA) : PW X (.BoolOp .Or [a] pos) tA := by
  intro wh pins s σ H Q I h
  refine isTrue_or (thn (ha pins s σ H Q I h) fun c s1 e => ?_)
  cases c with
  | false => exact isTrue_or_nil e
  | true => exact e
theorem pw_and (ha : PT X a tA) (hb : PW X (.BoolOp .And (b :: rest) pos) tB') : PW X (.BoolOp .And (a :: b :: rest) pos) (tAnd tA tB') := by
  intro wh pins s σ H Q I h
  refine isTrue_and (thn (ha pins s σ H _ I h) fun c s1 ⟨H1, I1, q1⟩ => ?_)
  cases c with
  | true => exact hb wh pins s1 σ H1 Q I1 q1
  | false => exact ⟨H1, I1, q1⟩
theorem pw_or (ha : PT X a tA) (hb : PW X (.BoolOp .Or (b :: rest) pos) tB') : PW X (.BoolOp .Or (a :: b :: rest) pos) (tOr tA tB') := by
  intro wh pins s σ H Q I h
  refine isTrue_or (thn (ha pins s σ H _ I h) fun c s1 ⟨H1, I1, q1⟩ => ?_)
  cases c with
  | true => exact ⟨H1, I1, q1⟩
  | false => exact hb wh pins s1 σ H1 Q I1 q1
theorem pt_not (ha : PT X a tA) : PT X (.UnaryOp .Not a pos) (tNot tA) := by
  intro pins s σ H Q I h
  exact isTrue_not (ha pins s σ H (fun c H1 => Q (!c) H1) I h)
def tAndV (ta tb : TE) : TE := fun σ H Q => ta σ H fun x H1 => ∃ c, x = .bl c ∧ if c = true then tb σ H1 Q else Q (.bl false) H1
def tNotV (ta : TE) : TE := fun σ H Q => ta σ H fun x H1 => ∃ c, x = .bl c ∧ Q (.bl (!c)) H1
theorem pe_one {op} {t : TE} (h : PE X a t) : PE X (.BoolOp op [a] pos) t := fun pins s σ H Q I hw => BoolOp_one (h pins s σ H Q I hw)
theorem pe_and (ha : PE X a ta) (hb : PE X (.BoolOp .And (b :: rest) pos) tb) : PE X (.BoolOp .And (a :: b :: rest) pos) (tAndV ta tb) := by
  intro pins s σ H Q I h
  refine BoolOp_and (thn (ha pins s σ H _ I h) fun v s1 ⟨x, H1, I1, r1, q1⟩ => ?_)
  obtain ⟨c, rfl, q1⟩ := q1
  cases r1
  refine wpAny_truthy_bool ?_
  cases c with
  | true => exact hb pins s1 σ H1 Q I1 q1
  | false => exact ⟨.bl false, H1, I1, rfl, q1⟩
theorem pe_not (ha : PE X a ta) : PE X (.UnaryOp .Not a pos) (tNotV ta) := by
  intro pins s σ H Q I h
  refine UnaryOp_ (thn (ha pins s σ H _ I h) fun v s1 ⟨x, H1, I1, r1, q1⟩ => ?_)
  obtain ⟨c, rfl, q1⟩ := q1
  cases r1
  exact not_of (wpAny_truthy_bool ⟨.bl (!c), H1, I1, rfl, q1⟩)
end
end L2
namespace L2
open PySem PySem.Spec PyProof.Rows
def SqL (K : PySem.W.Frag) (H : Hp) (a : Addr) (xs : List V) : Prop :=
  Rd H a (.lst xs) ∨
    ∃ (o : Obj) (its : Array Value) (n : Nat), K.lookup a = some o ∧ o.cls = .type "list" ∧ o.dict = none ∧ o.data = .seq its n ∧ its.size ≤ sizeLine ∧ Vals xs its.toList
def SqT (K : PySem.W.Frag) (H : Hp) (a : Addr) (xs : List V) : Prop :=
  Rd H a (.tup xs) ∨
    ∃ (o : Obj) (its : Array Value) (n : Nat), K.lookup a = some o ∧ o.cls = .type "tuple" ∧ o.data = .seq its n ∧ its.size ≤ sizeLine ∧ Vals xs its.toList
def absV : Value → Option V
  | .none => some .non
  | .bool b => some (.bl b)
  | .int i _ => some (.int i)
  | .str x _ => some (.str x)
  | .bytes b _ => some (.byt b)
  | .float b _ => some (.flt b)
  | .ref a => some (.ref a)
  | .type n => some (.ty n)
  | _ => none
theorem RelV.abs {x : V} {u : Value} (r : RelV x u) : absV u = some x := by
  cases x with
  | non => cases r; rfl
  | bl _ => cases r; rfl
  | int _ => obtain ⟨t, rfl⟩ := r; rfl
  | str _ => obtain ⟨t, rfl⟩ := r; rfl
  | byt _ => obtain ⟨t, rfl⟩ := r; rfl
  | flt _ => obtain ⟨t, rfl⟩ := r; rfl
  | ref _ => cases r; rfl
  | ty _ => cases r; rfl
theorem RelV.inj {x y : V} {u : Value} (r : RelV x u) (q : RelV y u) : x = y := Option.some.inj (r.abs.symm.trans q.abs)
theorem Vals.inj : ∀ {xs ys : List V} {us : List Value}, Vals xs us → Vals ys us → xs = ys
  | _, _, _, .nil, .nil => rfl
  | _, _, _, .cons r t, .cons r' t' => by rw [r.inj r', Vals.inj t t']
section
variable {X : Cx} {pins : List (Addr × Obj)} {σ : St} {H : Hp} {s : Shared} {a : Addr} {xs ys : List V}
theorem SqL.of {K : PySem.W.Frag} (h : H a = some (.lst xs)) : SqL K H a xs := .inl (.inl h)
theorem SqT.of {K : PySem.W.Frag} (h : H a = some (.tup xs)) : SqT K H a xs := .inl (.inl h)
theorem Inv.list (I : Inv X pins σ H s) (h : SqL X.K H a xs) : ∃ its : List Value, Vals xs its ∧ PlainL s.heap a its.toArray ∧ xs.length ≤ sizeLine := by
  rcases h with h | ⟨o, its, n, hk, hc, hd, hs, hz, r⟩
  · obtain ⟨z, its, n, r, e⟩ := h.ok I.hok
    exact ⟨its, r, ⟨_, n, e, rfl, rfl, rfl⟩, z⟩
  · refine ⟨its.toList, r, ⟨o, n, I.kIn a o hk, hc, hd, by simpa using hs⟩, ?_⟩
    have e := r.length
    simp only [Array.length_toList] at e
    omega
theorem Inv.tuple (I : Inv X pins σ H s) (h : SqT X.K H a xs) : ∃ its : List Value, Vals xs its ∧ IsTup s.heap a its.toArray ∧ xs.length ≤ sizeLine := by
  rcases h with h | ⟨o, its, n, hk, hc, hs, hz, r⟩
  · obtain ⟨z, its, r, p⟩ := h.ok I.hok
    exact ⟨its, r, p, z⟩
  · refine ⟨its.toList, r, ⟨o, I.kIn a o hk, hc, n, by simpa using hs⟩, ?_⟩
    have e := r.length
    simp only [Array.length_toList] at e
    omega
theorem Inv.list_inj (I : Inv X pins σ H s) (h : SqL X.K H a xs) (h' : SqL X.K H a ys) : xs = ys := by
  obtain ⟨its, r, ⟨o, n, e, _, _, d⟩, _⟩ := I.list h
  obtain ⟨its', r', ⟨o', n', e', _, _, d'⟩, _⟩ := I.list h'
  rw [e] at e'; cases e'
  rw [d] at d'
  injection d' with d1 _
  have : its = its' := by simpa using congrArg Array.toList d1
  subst this
  exact r.inj r'
theorem Inv.tuple_inj (I : Inv X pins σ H s) (h : SqT X.K H a xs) (h' : SqT X.K H a ys) : xs = ys := by
  obtain ⟨its, r, ⟨o, e, _, n, d⟩, _⟩ := I.tuple h
  obtain ⟨its', r', ⟨o', e', _, n', d'⟩, _⟩ := I.tuple h'
  rw [e] at e'; cases e'
  rw [d] at d'
  injection d' with d1 _
  have : its = its' := by simpa using congrArg Array.toList d1
  subst this
  exact r.inj r'
end
abbrev Cx.wish (X : Cx) (E : Value → Shared → Prop) : Cx := { X with xe := E }
abbrev Cx.nox (X : Cx) : Cx := X.wish fun _ _ => False
theorem Cx.Ok.wish {X : Cx} (ok : X.Ok) (E : Value → Shared → Prop) : (X.wish E).Ok :=
  ⟨ok.mod, ok.kind, ok.glob, ok.blt, ok.above, ok.inj, ok.has, ok.cab, ok.hd, ok.frames, ok.stk, ok.exf, ok.bs, ok.bsz, ok.noex, ok.exfs, ok.funs, ok.frf⟩
theorem Cx.Ok.unwish {X : Cx} {E : Value → Shared → Prop} (ok : (X.wish E).Ok) : X.Ok :=
  ⟨ok.mod, ok.kind, ok.glob, ok.blt, ok.above, ok.inj, ok.has, ok.cab, ok.hd, ok.frames, ok.stk, ok.exf, ok.bs, ok.bsz, ok.noex, ok.exfs, ok.funs, ok.frf⟩
section
variable {X : Cx} {pins : List (Addr × Obj)} {σ : St} {H : Hp} {s : Shared} {E : Value → Shared → Prop}
theorem Inv.wish (I : Inv X pins σ H s) (E : Value → Shared → Prop) : Inv (X.wish E) pins σ H s := ⟨I.ok.wish E, I.os, I.bare, I.base, I.loc, I.cell, I.free, I.freeC, I.pin, I.hok, I.len⟩
theorem Inv.unwish (I : Inv (X.wish E) pins σ H s) : Inv X pins σ H s := ⟨I.ok.unwish, I.os, I.bare, I.base, I.loc, I.cell, I.free, I.freeC, I.pin, I.hok, I.len⟩
end
section
variable {X : Cx} {st : Stmt} {rest : List Stmt} {t u : TS} {e : Expr} {te : TE} {pos : Pos}
def tNext : TS := fun D σ H => D.nx σ H
def tSeq (t u : TS) : TS := fun D σ H => t { D with nx := u D } σ H
theorem pss_nil : PSs X [] tNext := fun _ _ σ H _ I h => wpAny_execs_nil ⟨σ, H, I, h⟩
theorem pss_cons (h1 : PS X st t) (h2 : PSs X rest u) : PSs X (st :: rest) (tSeq t u) := by
  intro pins s σ H D I h
  refine wpAny_execs_cons (thn (h1 pins s σ H { D with nx := u D } I h) fun f s1 q => ?_)
  cases f with
  | next =>
    obtain ⟨σ', H', I', q⟩ := q
    exact h2 pins s1 σ' H' D I' q
  | ret v => exact q
  | brk => exact q
  | cont => exact q
theorem pss_one (h1 : PS X st t) : PSs X [st] t := by
  intro pins s σ H D I h
  refine wpAny_execs_cons (thn (h1 pins s σ H D I h) fun f s1 q => ?_)
  cases f with
  | next => exact wpAny_execs_nil q
  | ret v => exact q
  | brk => exact q
  | cont => exact q
theorem Inv.quiet {pins : List (Addr × Obj)} {σ : St} {H : Hp} {s : Shared} (I : Inv X pins σ H s) : interactive X.env = false := by simp [interactive, I.ok.kind]
def tDrop (te : TE) : TS := fun D σ H => te σ H fun _ H1 => D.nx σ H1
theorem ps_expr (he : PE X e te) (hs : swapsWith e none pos.line X.env = pure false := by rfl) : PS X (.Expr e pos) (tDrop te) := by
  intro pins s σ H D I h
  exact wpAny_Expr_any (thn (he pins s σ H _ I h) fun v s1 ⟨x, H1, I1, r1, q1⟩ => ⟨σ, H1, I1, q1⟩) I.quiet hs
def tRet (te : TE) : TS := fun D σ H => te σ H D.rt
theorem ps_ret (he : PE X e te) : PS X (.Return (some e) pos) (tRet te) := by
  intro pins s σ H D I h
  exact wpAny_Return_some (thn (he pins s σ H _ I h) fun v s1 ⟨x, H1, I1, r1, q1⟩ => ⟨x, σ, H1, I1, r1, q1⟩)
def tIfS (c : TT) (t u : TS) : TS := fun D σ H => c σ H fun b H1 => if b = true then t D σ H1 else u D σ H1
theorem ps_if {c : Expr} {a b : List Stmt} {tc : TT} (hc : PT X c tc) (ha : PSs X a t) (hb : PSs X b u) : PS X (.If c a b pos) (tIfS tc t u) := by
  intro pins s σ H D I h
  refine wpAny_If (thn (hc pins s σ H _ I h) fun d s1 ⟨H1, I1, q1⟩ => ?_)
  cases d with
  | true => exact ha pins s1 σ H1 D I1 q1
  | false => exact hb pins s1 σ H1 D I1 q1
end
abbrev TG := V → St → Hp → (St → Hp → Prop) → Prop
abbrev TGs := List V → St → Hp → (St → Hp → Prop) → Prop
def PG (X : Cx) (target : Expr) (t : TG) : Prop :=
  ∀ (pins : List (Addr × Obj)) (s : Shared) (σ : St) (H : Hp) (v : V) (u : Value) (Q : St → Hp → Prop), Inv X pins σ H s → RelV v u → t v σ H Q →
    wpAny (model X.prog X.w) X.A (assign target X.env u) (fun _ s' => ∃ σ' H', Inv X pins σ' H' s' ∧ Q σ' H') X.xe s
def PGs (X : Cx) (ts : List Expr) (t : TGs) : Prop :=
  ∀ (pins : List (Addr × Obj)) (s : Shared) (σ : St) (H : Hp) (vs : List V) (us : List Value) (Q : St → Hp → Prop), Inv X pins σ H s → Vals vs us → t vs σ H Q →
    wpAny (model X.prog X.w) X.A (assignInOrder ((assignEach ts X.env).map (·.2)) us) (fun _ s' => ∃ σ' H', Inv X pins σ' H' s' ∧ Q σ' H') X.xe s
abbrev TSet := V → V → V → Hp → (Hp → Prop) → Prop
def PSet (X : Cx) (t : TSet) : Prop :=
  ∀ (pins : List (Addr × Obj)) (s : Shared) (σ : St) (H : Hp) (o i v : V) (ov iv u : Value) (Q : Hp → Prop), Inv X pins σ H s → RelV o ov → RelV i iv → RelV v u → t o i v H Q →
    wpAny (model X.prog X.w) X.A (setItem ov iv u) (fun _ s' => ∃ H', Inv X pins σ H' s' ∧ Q H') X.xe s
section
variable {X : Cx} {pos : Pos}
def gName (i : Nat) : TG := fun v σ H Q => Q (σ.set i (some v)) H
theorem pg_name {i : Nat} {x : Str} (hN : X.N.Nodup) (hi : X.N[i]? = some x) (hx : Loc X.env.scope x) (hf : X.fn x = true ∨ X.env.scope.names.lookup x = some .local := by first | exact .inl rfl | exact .inr rfl | assumption) : PG X (.Name x pos) (gName i) := by
  intro pins s σ H v u Q I r h
  exact wpAny_assign_Name (store_ok I hN hi hx r (fun s' I' => ⟨_, H, I', h⟩) hf)
def gNil : TGs := fun vs σ H Q => vs = [] ∧ Q σ H
def gCons (t : TG) (u : TGs) : TGs := fun vs σ H Q => ∃ v r, vs = v :: r ∧ t v σ H fun σ' H' => u r σ' H' Q
theorem pgs_nil : PGs X [] gNil := by
  intro pins s σ H vs us Q I r h
  obtain ⟨e, h⟩ := h
  subst e
  cases r
  exact assignInOrder_nil ⟨σ, H, I, h⟩
theorem pgs_cons {e : Expr} {es : List Expr} {t : TG} {u : TGs} (h1 : PG X e t) (h2 : PGs X es u)
    (hs : (assignEach (e :: es) X.env).map (·.2) = assign e X.env :: (assignEach es X.env).map (·.2) := by rfl) : PGs X (e :: es) (gCons t u) := by
  intro pins s σ H vs us Q I r h
  obtain ⟨v, vr, e1, h⟩ := h
  subst e1
  cases r with
  | cons r rr =>
    rw [hs]
    refine assignInOrder_cons (thn (h1 pins s σ H _ _ _ I r h) fun _ s1 ⟨σ1, H1, I1, q1⟩ => ?_)
    exact h2 pins s1 σ1 H1 _ _ Q I1 rr q1
def gTup (K : PySem.W.Frag) (n : Nat) (t : TGs) : TG := fun v σ H Q => ∃ a xs, v = .ref a ∧ SqT K H a xs ∧ xs.length = n ∧ t xs σ H Q
theorem pg_tup {es : List Expr} {k : Nat} {t : TGs} {n : Nat} (hc : X.calm = true) (h : PGs X es t)
    (hn : (assignEach es X.env).length = n := by rfl) (hst : (assignEach es X.env).findIdx? (·.1) = none := by rfl) : PG X (.Tuple es k pos) (gTup X.K n t) := by
  intro pins s σ H v u Q I r hw
  obtain ⟨a, xs, e1, hq, hl, hw⟩ := hw
  subst e1
  cases r
  obtain ⟨its, rv, ht, hz⟩ := I.tuple hq
  refine assign_Tuple_tuple (I.ok.hd hc) ht (by simp [hn, ← hl, rv.length]) hst fun h' hx => ?_
  have I1 : Inv X pins σ H { s with heap := h' } := I.kept (t' := s.toks) fun b o e => hx b o (Nat.ne_of_lt (Heap.lt_size e)) e
  exact h pins _ σ H xs _ Q I1 (by simpa using rv) hw
def gSub (to ti : TE) (t : TSet) : TG := fun v σ H Q => to σ H fun o H1 => ti σ H1 fun i H2 => t o i v H2 fun H3 => Q σ H3
theorem pg_sub {o i : Expr} {to ti : TE} {t : TSet} (ho : PE X o to) (hi : PE X i ti) (hs : PSet X t)
    (ha : ∀ v, assign (.Subscript o i pos) X.env v = (do
      let ov ← holding [v] (eval o X.env)
      let iv ← holding [v, ov] (eval i X.env)
      standAt pos
      holding [v, ov, iv] (setItem ov iv v)
      release [v, ov, iv] []) := by intro _; rfl) : PG X (.Subscript o i pos) (gSub to ti t) := by
  intro pins s σ H v u Q I r h
  rw [ha]
  refine wpAny_bind (wpAny_holding (thn (ho pins s σ H _ I h) fun ov s1 ⟨x, H1, I1, r1, q1⟩ => ?_))
  refine wpAny_bind (wpAny_holding (thn (hi pins s1 σ H1 _ I1 q1) fun iv s2 ⟨y, H2, I2, r2, q2⟩ => ?_))
  refine wpAny_bind (wpAny_standAt (wpAny_bind (wpAny_holding (thn (hs pins s2 σ H2 x y v ov iv u _ I2 r1 r2 r q2) fun _ s3 ⟨H3, I3, q3⟩ => ?_))))
  exact wpAny_release ⟨σ, H3, I3, q3⟩
def tAsg (te : TE) (g : TG) : TS := fun D σ H => te σ H fun x H1 => g x σ H1 D.nx
theorem ps_asg {tg e : Expr} {te : TE} {g : TG} (he : PE X e te) (hg : PG X tg g) (hs : swapsWithSole [tg] e pos.line X.env = pure false := by rfl) (hw : swappedStores [tg] e X.env = pure none := by rfl)
    (h1 : (assignEach [tg] X.env).map (·.2) = [assign tg X.env] := by rfl) : PS X (.Assign [tg] e pos) (tAsg te g) := by
  intro pins s σ H D I h
  refine wpAny_Assign_stores (thn (he pins s σ H _ I h) fun v s1 ⟨x, H1, I1, r1, q1⟩ => ?_) hs hw
  rw [h1]
  exact thn (hg pins s1 σ H1 x v _ I1 r1 q1) fun _ s2 q => q
theorem ps_set {i : Nat} {x : Str} {e : Expr} {te : TE} {pos' : Pos} (hN : X.N.Nodup) (hi : X.N[i]? = some x) (hx : Loc X.env.scope x) (he : PE X e te) (hs : swapsWith e (some (.Name x pos')) pos.line X.env = pure false := by rfl) (hf : X.fn x = true ∨ X.env.scope.names.lookup x = some .local := by first | exact .inl rfl | exact .inr rfl | assumption) :
    PS X (.Assign [.Name x pos'] e pos) (tAsg te (gName i)) := by
  intro pins s σ H D I h
  refine wpAny_Assign_Name (thn (he pins s σ H _ I h) fun v s1 ⟨y, H1, I1, r1, q1⟩ => ?_) hs
  exact store_ok I1 hN hi hx r1 (fun s2 I2 => ⟨_, H1, I2, q1⟩) hf
def tPar (i j : Nat) (ta : TA) : TS := fun D σ H => ta σ H fun vs H1 => ∃ v w, vs = [v, w] ∧ D.nx ((σ.set i (some v)).set j (some w)) H1
theorem ps_par {i j : Nat} {x y : Str} {a b : Expr} {ta : TA} {px py pt : Pos} {kt k2 pt2} (hc : X.calm = true) (hN : X.N.Nodup) (hi : X.N[i]? = some x) (hj : X.N[j]? = some y) (hij : i ≠ j)
    (hx : X.env.scope.names.lookup x = some .local) (hy : X.env.scope.names.lookup y = some .local) (ha : PA X [a, b] ta)
    (hw : swappedStores [.Tuple [.Name x px, .Name y py] kt pt] (.Tuple [a, b] k2 pt2) X.env = pure (some [x, y]))
    (hs : swapsWithSole [.Tuple [.Name x px, .Name y py] kt pt] (.Tuple [a, b] k2 pt2) pos.line X.env = pure false := by rfl) :
    PS X (.Assign [.Tuple [.Name x px, .Name y py] kt pt] (.Tuple [a, b] k2 pt2) pos) (tPar i j ta) := by
  intro pins s σ H D I h
  rw [exec_Assign_arm]
  refine wpAny_bind (wpAny_standAt ?_)
  rw [hs]
  refine wpAny_bind (wpAny_pure ?_)
  rw [if_neg (by decide)]
  refine wpAny_bind (Tuple_ (thn (ha _ pins s σ H _ I h) fun us s1 ⟨vs, H1, I1, r1, q1⟩ => ?_))
  obtain ⟨v, w, e1, q1⟩ := q1
  subst e1
  obtain ⟨u1, u2, rfl, rv, rw'⟩ : ∃ u1 u2, us = [u1, u2] ∧ RelV v u1 ∧ RelV w u2 := by
    cases r1 with
    | cons p q =>
      cases q with
      | cons p' q' =>
        cases q'
        exact ⟨_, _, rfl, p, p'⟩
  refine wpAny_newObj_type ?_ (by show 2 ≤ sizeLine; decide)
  have I2 : Inv X pins σ H1 { s1 with heap := s1.heap.push { cls := .type "tuple", data := .seq [u1, u2].toArray } } := I1.kept (t' := s1.toks) fun b o e => Heap.get?_push_of_some _ e
  rw [hw]
  refine wpAny_bind (wpAny_pure ?_)
  show wpAny (model X.prog X.w) X.A (do rule "assign.swapped-stores"; let items ← unpackItems (.ref s1.heap.objs.size) 2 none; assignInOrder [fun v => bindName X.env y v, fun v => bindName X.env x v] items.reverse; pure Flow.next) _ _ _
  refine wpAny_bind (wpAny_rule (wpAny_bind (unpackItems_tuple (items := #[u1, u2]) (I.ok.hd hc) (IsTup.new s1.heap _) fun h' hx' => ?_)))
  have I3 := I2.kept (h' := h') (t' := s1.toks) fun b o e => hx' b o (Nat.ne_of_lt (Heap.lt_size e)) e
  show wpAny _ _ (assignInOrder [fun v => bindName X.env y v, fun v => bindName X.env x v] [u2, u1] >>= fun _ => pure Flow.next) _ _ _
  refine wpAny_bind (assignInOrder_cons (wpAny_bindName (store_ok I3 hN hj (.inl hy) rw' (fun s2 I4 => ?_) (.inr hy))))
  refine assignInOrder_cons (wpAny_bindName (store_ok I4 hN hi (.inl hx) rv (fun s3 I5 => assignInOrder_nil (wpAny_pure ?_)) (.inr hx)))
  rw [List.set_comm _ _ (Ne.symm hij)] at I5
  exact ⟨_, H1, I5, q1⟩
end
section
variable {X : Cx} {pos : Pos}
def tWhile (c : TT) (tb : TS) : TS := fun D σ H => ∃ W : Nat → St → Hp → Prop, (∃ m, W m σ H) ∧ ∀ m σ H, W m σ H →
  c σ H fun b H1 => if b = true then ∃ N : St → Hp → Prop, (∀ σ' H', N σ' H' → ∃ m', m' < m ∧ W m' σ' H') ∧ tb { D with nx := N, ct := N, bk := D.nx } σ H1 else D.nx σ H1
theorem ps_while {c : Expr} {body : List Stmt} {tc : TT} {tb : TS} (hp : PassesOwn (model X.prog X.w) X.A X.env X.xe) (hc : PT X c tc) (hb : PSs X body tb) : PS X (.While c body [] pos) (tWhile tc tb) := by
  intro pins s σ H D I h
  obtain ⟨W, ⟨m0, w0⟩, turn⟩ := h
  refine wpAny_While (codeAny_whileLoop (fun n s' => ∃ σ' H', Inv X pins σ' H' s' ∧ W n σ' H') ?_ m0 ⟨σ, H, I, w0⟩)
  rintro n s1 ⟨σ1, H1, I1, w1⟩
  refine wpAny_passesOwn hp (thn (hc pins s1 σ1 H1 _ I1 (turn n σ1 H1 w1)) fun b s2 ⟨H2, I2, q2⟩ => ?_)
  cases b with
  | true =>
    obtain ⟨N, hN, q2⟩ := q2
    rw [if_pos rfl]
    refine wpAny_passesOwn hp (thn (hb pins s2 σ1 H2 _ I2 q2) fun f s3 q3 => ?_)
    cases f with
    | next =>
      obtain ⟨σ3, H3, I3, n3⟩ := q3
      obtain ⟨m', hm, w3⟩ := hN σ3 H3 n3
      exact ⟨m', hm, σ3, H3, I3, w3⟩
    | cont =>
      obtain ⟨σ3, H3, I3, n3⟩ := q3
      obtain ⟨m', hm, w3⟩ := hN σ3 H3 n3
      exact ⟨m', hm, σ3, H3, I3, w3⟩
    | brk => exact q3
    | ret v => exact q3
  | false =>
    rw [if_neg Bool.false_ne_true]
    exact wpAny_execs_nil ⟨σ1, H2, I2, q2⟩
end
structure It where
  go : Nat → Hp → Prop
  yld : Nat → Hp → V → Hp → Prop
  stop : Nat → Hp → Prop
def FpOk (X : Cx) (pins : List (Addr × Obj)) (H : Hp) (b : Addr) : Prop :=
  H b = none ∧ b ≠ X.env.locals ∧ b ∉ X.fs ∧ (b ∈ X.ex ∨ X.s₀.heap.objs.size ≤ b) ∧ (∀ x c, X.env.cells.lookup x = some c → c ≠ b) ∧ ∀ p ∈ X.pn ++ pins, p.1 ≠ b
theorem Inv.fpOk {X : Cx} {pins : List (Addr × Obj)} {σ : St} {H H' : Hp} {s : Shared} {b : Addr} (I : Inv X pins σ H s) (hb : s.heap.objs.size ≤ b) (hn : H' b = none) : FpOk X pins H' b := by
  refine ⟨hn, Nat.ne_of_gt (Nat.lt_of_lt_of_le I.lt hb), I.nofs hb, .inr (Nat.le_trans I.sz hb), fun x c e z => ?_, fun p hp z => ?_⟩
  · obtain ⟨v, q⟩ := I.cell x c e
    exact absurd (Nat.lt_of_lt_of_le q.lt (by rw [z]; exact hb)) (Nat.lt_irrefl _)
  · exact absurd (Nat.lt_of_lt_of_le (Heap.lt_size (I.pin p hp).1) (by rw [z]; exact hb)) (Nat.lt_irrefl _)
structure Turn (P : Program) (w : World) (K : PySem.W.Frag) (tg : Expr) (J : It) (fp : List Addr) (it : Addr) (tn : Nat → Heap → Prop) : Prop where
  mem : it ∈ fp
  obj : ∀ i h, tn i h → ∀ b ∈ fp, ∃ o, h.get? b = some o ∧ ∀ v, o.data ≠ .cell v
  keep : ∀ i h h', tn i h → (∀ b ∈ fp, ∀ o, h.get? b = some o → h'.get? b = some o) → tn i h'
  item : ∀ (X : Cx), X.prog = P → X.w = w → X.K = K → X.calm = true → ∀ (i : Nat) (pins : List (Addr × Obj)) (s : Shared) (σ : St) (H : Hp) (E : Value → Shared → Prop), Inv X pins σ H s → (∀ b ∈ fp, FpOk X pins H b) → tn i s.heap → J.go i H →
    wpAny (model P w) X.A (pyNext (.ref it)) (fun r s1 => ∃ u, r = some u ∧
      wpAny (model P w) X.A (letOwnedTupleGo tg (.ref it) u) (fun _ s2 => ∃ x H', Inv X pins σ H' s2 ∧ RelV x u ∧ J.yld i H x H' ∧ tn (i + 1) s2.heap ∧ ∀ b ∈ fp, H' b = none) E s1) E s
  done : ∀ (X : Cx), X.prog = P → X.w = w → X.K = K → X.calm = true → ∀ (i : Nat) (pins : List (Addr × Obj)) (s : Shared) (σ : St) (H : Hp) (E : Value → Shared → Prop), Inv X pins σ H s → (∀ b ∈ fp, FpOk X pins H b) → tn i s.heap → J.stop i H →
    wpAny (model P w) X.A (pyNext (.ref it)) (fun r s1 => r = none ∧ Inv X pins σ H s1) E s
  self : ∀ (A : Around) (i : Nat) (s : Shared) (Q : Value → Shared → Prop) (E : Value → Shared → Prop), tn i s.heap → Q (.ref it) s → wpAny (model P w) A (pyIter (.ref it)) Q E s
abbrev TI := St → Hp → (It → Hp → Prop) → Prop
def PIE (X : Cx) (pins : List (Addr × Obj)) (σ : St) (tg : Expr) (R : It → Hp → Prop) (itv : Value) (s2 : Shared) : Prop :=
  ∃ (it : Addr) (fp : List Addr) (tn : Nat → Heap → Prop) (J : It) (H' : Hp), itv = .ref it ∧ Inv X pins σ H' s2 ∧ Turn X.prog X.w X.K tg J fp it tn ∧ tn 0 s2.heap ∧ (∀ b ∈ fp, FpOk X pins H' b) ∧ R J H'
def PI (X : Cx) (tg iter : Expr) (wi : TI) : Prop :=
  ∀ (pins : List (Addr × Obj)) (s : Shared) (σ : St) (H : Hp) (R : It → Hp → Prop), Inv X pins σ H s → wi σ H R →
    wpAny (model X.prog X.w) X.A (eval iter X.env) (fun v s1 => wpAny (model X.prog X.w) X.A (pyIter v) (PIE X pins σ tg R) X.xe s1) X.xe s
theorem go_of {M : Model} {A : Around} {E : Value → Shared → Prop} {s : Shared} {tg : Expr} {it : Addr} {u : Value} {o : Obj} {n : String} {vs : Array Value} {Q : Unit → Shared → Prop} (ho : s.heap.get? it = some o) (hc : o.cls = .type n) (hd : o.data = .fields vs)
    (hn : ["enumerate", "zip", "dict_itemiterator", "dict_reverseitemiterator", "odict_iterator", "itertools.zip_longest", "itertools.pairwise"].contains n = false) (hQ : Q () s) : wpAny M A (letOwnedTupleGo tg (.ref it) u) Q E s := by
  unfold letOwnedTupleGo
  cases tg <;> first
    | exact wpAny_pure hQ
    | (cases u <;> first
        | exact wpAny_pure hQ
        | (refine wpAny_bind (wpAny_load ho ?_)
           rw [hc, hd]
           show wpAny M A (if (["enumerate", "zip", "dict_itemiterator", "dict_reverseitemiterator", "odict_iterator", "itertools.zip_longest", "itertools.pairwise"].contains n && vs[0]? == some (rawInt _)) = true then _ else _) Q E s
           rw [if_neg (by intro h; rw [hn, Bool.false_and] at h; cases h)]
           exact wpAny_pure hQ))
def Itl (K : PySem.W.Frag) (a : Addr) : It :=
  ⟨fun i H => ∃ xs x, SqL K H a xs ∧ xs[i]? = some x, fun i H x H' => H' = H ∧ ∀ xs, SqL K H a xs → xs[i]? = some x, fun i H => ∃ xs, SqL K H a xs ∧ xs.length ≤ i⟩
def Itt (K : PySem.W.Frag) (a : Addr) : It :=
  ⟨fun i H => ∃ xs x, SqT K H a xs ∧ xs[i]? = some x, fun i H x H' => H' = H ∧ ∀ xs, SqT K H a xs → xs[i]? = some x, fun i H => ∃ xs, SqT K H a xs ∧ xs.length ≤ i⟩
def Itr (lo : Int) (n : Nat) : It := ⟨fun i _ => i < n, fun i H x H' => H' = H ∧ x = .int (lo + i), fun i _ => n ≤ i⟩
theorem turn_list {P : Program} {w : World} {K : PySem.W.Frag} {tg : Expr} (a it : Addr) : Turn P w K tg (Itl K a) [it] it (fun i h => h.IsListIter it a i) where
  mem := by simp
  obj := fun i h st b hb => by
    have e : b = it := by simpa using hb
    subst e
    obtain ⟨o, e, c, d⟩ := st
    exact ⟨o, e, fun v z => by rw [d] at z; cases z⟩
  keep := fun i h h' st k => st.at fun o e => k it (by simp) o e
  item := by
    intro X hP hw hK hc i pins s σ H E I hf st hg
    subst hP hw hK
    obtain ⟨xs, x, hq, hx⟩ := hg
    obtain ⟨its, rv, p, hz⟩ := I.list hq
    obtain ⟨u, hu, ru⟩ := rv.get hx
    obtain ⟨f0, f1, f2, f3, f4, f5⟩ := hf it (by simp)
    refine wpAny_pyNext_list_item st p.isList (x := u) (by simpa using hu) fun h' st' sb => ?_
    have I1 : Inv X pins σ H { s with heap := h' } := I.turned (t' := s.toks) (fun b o hb e => (sb.2 b hb).trans e) f0 f1 f3 f4 f5
    obtain ⟨o, e, c, d⟩ := id st'
    exact ⟨u, rfl, go_of (s := { s with heap := h' }) e c d (by decide) ⟨x, H, I1, ru, ⟨rfl, fun ys hy => by rw [I.list_inj hy hq]; exact hx⟩, st', fun b hb => (hf b hb).1⟩⟩
  done := by
    intro X hP hw hK hc i pins s σ H E I hf st hg
    subst hP hw hK
    obtain ⟨xs, hq, hx⟩ := hg
    obtain ⟨its, rv, p, hz⟩ := I.list hq
    obtain ⟨f0, f1, f2, f3, f4, f5⟩ := hf it (by simp)
    have hl := rv.length
    exact wpAny_pyNext_list_end (I.ok.hd hc) st p.isList (by simp; omega) fun h' eb => ⟨rfl, I.turned (t' := s.toks) (fun b o hb e => eb b o hb e) f0 f1 f3 f4 f5⟩
  self := fun _ _ _ _ _ st h => wpAny_pyIter_listiter st h
theorem turn_tuple {P : Program} {w : World} {K : PySem.W.Frag} {tg : Expr} (a it : Addr) : Turn P w K tg (Itt K a) [it] it (fun i h => h.IsTupleIter it a i) where
  mem := by simp
  obj := fun i h st b hb => by
    have e : b = it := by simpa using hb
    subst e
    obtain ⟨o, e, c, d⟩ := st
    exact ⟨o, e, fun v z => by rw [d] at z; cases z⟩
  keep := fun i h h' st k => st.at fun o e => k it (by simp) o e
  item := by
    intro X hP hw hK hc i pins s σ H E I hf st hg
    subst hP hw hK
    obtain ⟨xs, x, hq, hx⟩ := hg
    obtain ⟨its, rv, p, hz⟩ := I.tuple hq
    obtain ⟨u, hu, ru⟩ := rv.get hx
    obtain ⟨f0, f1, f2, f3, f4, f5⟩ := hf it (by simp)
    refine wpAny_pyNext_tuple_item st (show s.heap.IsTuple a its.toArray from p) (x := u) (by simpa using hu) fun h' st' sb => ?_
    have I1 : Inv X pins σ H { s with heap := h' } := I.turned (t' := s.toks) (fun b o hb e => (sb.2 b hb).trans e) f0 f1 f3 f4 f5
    obtain ⟨o, e, c, d⟩ := id st'
    exact ⟨u, rfl, go_of (s := { s with heap := h' }) e c d (by decide) ⟨x, H, I1, ru, ⟨rfl, fun ys hy => by rw [I.tuple_inj hy hq]; exact hx⟩, st', fun b hb => (hf b hb).1⟩⟩
  done := by
    intro X hP hw hK hc i pins s σ H E I hf st hg
    subst hP hw hK
    obtain ⟨xs, hq, hx⟩ := hg
    obtain ⟨its, rv, p, hz⟩ := I.tuple hq
    obtain ⟨f0, f1, f2, f3, f4, f5⟩ := hf it (by simp)
    have hl := rv.length
    exact wpAny_pyNext_tuple_end (I.ok.hd hc) st (show s.heap.IsTuple a its.toArray from p) (by simp; omega) fun h' eb => ⟨rfl, I.turned (t' := s.toks) (fun b o hb e => eb b o hb e) f0 f1 f3 f4 f5⟩
  self := fun _ _ _ _ _ st h => wpAny_pyIter_tupleiter st h
theorem turn_range {P : Program} {w : World} {K : PySem.W.Frag} {tg : Expr} (it : Addr) (lo : Int) (n : Nat) : Turn P w K tg (Itr lo n) [it] it (fun i h => IsRangeIter h it (lo + (i : Nat) * 1) ((n : Int) - (i : Nat)) 1) where
  mem := by simp
  obj := fun i h st b hb => by
    have e : b = it := by simpa using hb
    subst e
    exact ⟨_, st, fun v z => by
      have z' : Data.fields _ = Data.cell v := z
      cases z'⟩
  keep := fun i h h' st k => k it (by simp) _ st
  item := by
    intro X hP hw hK hc i pins s σ H E I hf st hg
    subst hP hw hK
    obtain ⟨f0, f1, f2, f3, f4, f5⟩ := hf it (by simp)
    have W := Walks.range (prog := X.prog) (w := X.w) (I.ok.hd hc) it lo 1 n
    refine W.item i s _ _ hg st fun v h' tk hv st' kk => ?_
    obtain ⟨t, rfl⟩ := hv
    have I1 : Inv X pins σ H { s with heap := h', toks := tk } := I.turned (fun b o hb e => kk b o (by simpa using hb) e) f0 f1 f3 f4 f5
    refine ⟨_, rfl, go_of (s := { s with heap := h', toks := tk }) (n := "range_iterator") st' rfl rfl (by decide) ⟨.int (lo + i), H, I1, ⟨t, ?_⟩, ⟨rfl, rfl⟩, st', fun b hb => (hf b hb).1⟩⟩
    rw [Int.mul_one]
  done := by
    intro X hP hw hK hc i pins s σ H E I hf st hg
    subst hP hw hK
    obtain ⟨f0, f1, f2, f3, f4, f5⟩ := hf it (by simp)
    exact wpAny_pyNext_range_end (I.ok.hd hc) st (by have : n ≤ i := hg; omega) fun h' eb => ⟨rfl, I.turned (t' := s.toks) (fun b o hb e => eb b o hb e) f0 f1 f3 f4 f5⟩
  self := fun _ _ _ _ _ st h => wpAny_pyIter_rangeiter st h
end L2
namespace L2
open PySem PySem.Spec PyProof.Rows
section
variable {X : Cx} {tg : Expr}
def iList (K : PySem.W.Frag) (tl : TE) : TI := fun σ H R => tl σ H fun x H1 => ∃ a, x = .ref a ∧ (∃ xs, SqL K H1 a xs) ∧ R (Itl K a) H1
def iTup (K : PySem.W.Frag) (tl : TE) : TI := fun σ H R => tl σ H fun x H1 => ∃ a, x = .ref a ∧ (∃ xs, SqT K H1 a xs) ∧ R (Itt K a) H1
theorem pi_list {l : Expr} {tl : TE} (hl : PE X l tl) : PI X tg l (iList X.K tl) := by
  intro pins s σ H R I h
  refine thn (hl pins s σ H _ I h) fun v s1 ⟨x, H1, I1, r1, q1⟩ => ?_
  obtain ⟨a, e, ⟨xs, hq⟩, q⟩ := q1
  subst e
  cases r1
  obtain ⟨its, rv, p, hz⟩ := I1.list hq
  refine wpAny_pyIter_list p.isList ?_
  refine ⟨s1.heap.objs.size, [s1.heap.objs.size], _, _, H1, rfl, I1.kept (t' := s1.toks) fun b o e => Heap.get?_push_of_some _ e, turn_list a _, ⟨_, Heap.get?_push_size _ rfl, rfl, rfl⟩, fun b hb => ?_, q⟩
  have e : b = s1.heap.objs.size := by simpa using hb
  subst e
  exact I1.fpOk (Nat.le_refl _) (I1.hok.fresh (Nat.le_refl _))
theorem pi_tup {l : Expr} {tl : TE} (hl : PE X l tl) : PI X tg l (iTup X.K tl) := by
  intro pins s σ H R I h
  refine thn (hl pins s σ H _ I h) fun v s1 ⟨x, H1, I1, r1, q1⟩ => ?_
  obtain ⟨a, e, ⟨xs, hq⟩, q⟩ := q1
  subst e
  cases r1
  obtain ⟨its, rv, p, hz⟩ := I1.tuple hq
  refine wpAny_pyIter_tuple (show s1.heap.IsTuple a its.toArray from p) ?_
  refine ⟨s1.heap.objs.size, [s1.heap.objs.size], _, _, H1, rfl, I1.kept (t' := s1.toks) fun b o e => Heap.get?_push_of_some _ e, turn_tuple a _, ⟨_, Heap.get?_push_size _ rfl, rfl, rfl⟩, fun b hb => ?_, q⟩
  have e : b = s1.heap.objs.size := by simpa using hb
  subst e
  exact I1.fpOk (Nat.le_refl _) (I1.hok.fresh (Nat.le_refl _))
theorem range_it {pins : List (Addr × Obj)} {σ : St} {H : Hp} {s : Shared} {R : It → Hp → Prop} {E : Value → Shared → Prop} {lo hi : Int} {t u v : Tok} {tk : Nat} (I : Inv X pins σ H s) (h1 : -(2 ^ 62) ≤ lo) (h2 : lo < 2 ^ 62) (h3 : -(2 ^ 62) ≤ hi) (h4 : hi < 2 ^ 62)
    (q : R (Itr lo (hi - lo).toNat) H) : wpAny (model X.prog X.w) X.A (pyIter (.ref s.heap.objs.size)) (PIE X pins σ tg R) E { s with heap := s.heap.push { cls := .type "range", data := .fields #[.int lo t, .int hi u, .int 1 v] }, toks := tk } := by
  refine wpAny_pyIter_range (IsRange.new ..) (small_one h1 h2 h3 h4) ?_
  have I1 : Inv X pins σ H { s with heap := s.heap.push { cls := .type "range", data := .fields #[.int lo t, .int hi u, .int 1 v] }, toks := tk } := I.kept fun b o e => Heap.get?_push_of_some _ e
  refine ⟨(s.heap.push { cls := .type "range", data := .fields #[.int lo t, .int hi u, .int 1 v] }).objs.size, [(s.heap.push { cls := .type "range", data := .fields #[.int lo t, .int hi u, .int 1 v] }).objs.size], _, _, H, rfl,
    I1.kept (t' := tk) fun b o e => Heap.get?_push_of_some _ e, turn_range _ lo (hi - lo).toNat, ?_, fun b hb => ?_, q⟩
  · have e1 : lo + ((0 : Nat) : Int) * 1 = lo := by simp
    have e2 : (((hi - lo).toNat : Nat) : Int) - ((0 : Nat) : Int) = Builtin.Range.rangeSize lo hi 1 := by rw [rangeSize_one]; split <;> omega
    show IsRangeIter _ _ (lo + ((0 : Nat) : Int) * 1) ((((hi - lo).toNat : Nat) : Int) - ((0 : Nat) : Int)) 1
    rw [e1, e2]
    exact Heap.get?_push_size _ rfl
  · have e : b = (s.heap.push { cls := .type "range", data := .fields #[.int lo t, .int hi u, .int 1 v] }).objs.size := by simpa using hb
    subst e
    exact I1.fpOk (Nat.le_refl _) (I1.hok.fresh (Nat.le_refl _))
def iRng1 (ta : TA) : TI := fun σ H R => ta σ H fun vs H1 => ∃ j : Int, vs = [.int j] ∧ -(2 ^ 62) ≤ j ∧ j < 2 ^ 62 ∧ R (Itr 0 j.toNat) H1
def iRng2 (ta : TA) : TI := fun σ H R => ta σ H fun vs H1 => ∃ i j : Int, vs = [.int i, .int j] ∧ (-(2 ^ 62) ≤ i ∧ i < 2 ^ 62 ∧ -(2 ^ 62) ≤ j ∧ j < 2 ^ 62) ∧ R (Itr i (j - i).toNat) H1
theorem pi_range1 {a : Expr} {ta : TA} {p pos : Pos} (hg : Gl X "range") (hm : X.mg "range" = none) (ha : PA X [a] ta) (hs : starEach [a] X.env = [(false, eval a X.env)] := by rfl) : PI X tg (.Call (.Name "range" p) [a] [] pos) (iRng1 ta) := by
  intro pins s σ H R I h
  refine Call_ (ld_blt I hg hm boot_range (PyProof.Rows.callWith_type1 (thn (ha pos pins s σ H _ I h) fun us s1 ⟨vs, H1, I1, r1, q1⟩ => ?_) hs rfl))
  obtain ⟨j, e, q1, q2, q⟩ := q1
  subst e
  cases r1 with
  | cons r rr =>
    cases rr
    obtain ⟨t, rfl⟩ := r
    exact call_range_1 (range_it I1 (by omega) (by omega) q1 q2 (by simpa using q))
theorem pi_range2 {a b : Expr} {ta : TA} {p pos : Pos} (hg : Gl X "range") (hm : X.mg "range" = none) (ha : PA X [a, b] ta) (hs : starEach [a, b] X.env = [(false, eval a X.env), (false, eval b X.env)] := by rfl) (hs2 : starEach [b] X.env = [(false, eval b X.env)] := by rfl) :
    PI X tg (.Call (.Name "range" p) [a, b] [] pos) (iRng2 ta) := by
  intro pins s σ H R I h
  refine Call_ (ld_blt I hg hm boot_range (PyProof.Rows.callWith_type1 (thn (ha pos pins s σ H _ I h) fun us s1 ⟨vs, H1, I1, r1, q1⟩ => ?_) (by rw [hs, hs2]) (by rw [hs2]; rfl)))
  obtain ⟨i, j, e, ⟨q1, q2, q3, q4⟩, q⟩ := q1
  subst e
  cases r1 with
  | cons r rr =>
    cases rr with
    | cons r' rr =>
      cases rr
      obtain ⟨t, rfl⟩ := r
      obtain ⟨t', rfl⟩ := r'
      exact call_range_2 (range_it I1 q1 q2 q3 q4 q)
def tFor (wi : TI) (g : TG) (tb : TS) : TS := fun D σ H => wi σ H fun J H1 => ∃ W : Nat → Nat → St → Hp → Prop, (∃ m, W 0 m σ H1) ∧ ∀ i m σ H, W i m σ H →
  (J.stop i H ∧ D.nx σ H) ∨ (J.go i H ∧ ∃ N : St → Hp → Prop, (∀ σ' H', N σ' H' → ∃ m', m' < m ∧ W (i + 1) m' σ' H') ∧ ∀ x H', J.yld i H x H' → g x σ H' fun σ2 H2 => tb { D with nx := N, ct := N, bk := D.nx } σ2 H2)
def pinsAt (fp : List Addr) (h : Heap) : List (Addr × Obj) := fp.filterMap fun b => (h.get? b).map fun o => (b, o)
theorem mem_pinsAt {fp : List Addr} {h : Heap} {b : Addr} {o : Obj} (hb : b ∈ fp) (e : h.get? b = some o) : (b, o) ∈ pinsAt fp h := List.mem_filterMap.mpr ⟨b, hb, by rw [e]; rfl⟩
theorem of_pinsAt {fp : List Addr} {h : Heap} {p : Addr × Obj} (hp : p ∈ pinsAt fp h) : p.1 ∈ fp ∧ h.get? p.1 = some p.2 := by
  obtain ⟨b, hb, e⟩ := List.mem_filterMap.mp hp
  cases q : h.get? b with
  | none => rw [q] at e; cases e
  | some o =>
    rw [q] at e
    have e' : (b, o) = p := Option.some.inj e
    subst e'
    exact ⟨hb, q⟩
theorem Inv.pinned {pins : List (Addr × Obj)} {σ : St} {H : Hp} {s : Shared} {fp : List Addr} (I : Inv X pins σ H s) (hf : ∀ b ∈ fp, FpOk X pins H b) (ho : ∀ b ∈ fp, ∃ o, s.heap.get? b = some o ∧ ∀ v, o.data ≠ .cell v) : Inv X (pins ++ pinsAt fp s.heap) σ H s :=
  I.pins_of fun p hp => (List.mem_append.mp hp).elim (fun z => I.pin p (List.mem_append_right _ z)) fun z => by
    obtain ⟨hb, e⟩ := of_pinsAt z
    obtain ⟨f0, f1, f2, _⟩ := hf p.1 hb
    obtain ⟨o, e', d⟩ := ho p.1 hb
    rw [e] at e'; cases e'
    exact ⟨e, f0, f1, f2, d⟩
theorem Inv.unpinned {pins pl : List (Addr × Obj)} {σ : St} {H : Hp} {s : Shared} (I : Inv X (pins ++ pl) σ H s) : Inv X pins σ H s := I.pins_of fun p hp => I.pin p (List.mem_append_right _ (List.mem_append_left _ hp))
theorem ps_for {iter : Expr} {body : List Stmt} {wi : TI} {g : TG} {tb : TS} {pos : Pos} (hp : PassesOwn (model X.prog X.w) X.A X.env X.xe) (hc : X.calm = true) (hi : PI X tg iter wi) (hg : PG X tg g) (hb : PSs X body tb)
    (hs : ∀ x, foldedSetIterable iter X.env x = pure x := by intro _; rfl) : PS X (.For tg iter body [] pos) (tFor wi g tb) := by
  intro pins s σ H D I h
  refine wpAny_For (thn (hi pins s σ H _ I h) fun v s1 h1 => thn h1 fun itv s2 h2 => ?_) hs
  obtain ⟨it, fp, tn, J, H2, e, I2, T, st2, f2, W, ⟨m0, w0⟩, turn⟩ := h2
  subst e
  have stat : ∀ {H' : Hp}, (∀ b ∈ fp, H' b = none) → ∀ b ∈ fp, FpOk X pins H' b := fun hn b hb => ⟨hn b hb, (f2 b hb).2⟩
  refine codeAny_forLoop_any (fun n s' => ∃ i σ' H', Inv X pins σ' H' s' ∧ tn i s'.heap ∧ (∀ b ∈ fp, H' b = none) ∧ W i n σ' H') ?_ m0 ⟨0, σ, H2, I2, st2, fun b hb => (f2 b hb).1, w0⟩
  rintro n s3 ⟨i, σ3, H3, I3, st3, fr3, w3⟩
  rcases turn i n σ3 H3 w3 with ⟨stop, qn⟩ | ⟨go, N, hN, step⟩
  · refine wpAny_passesOwn hp (thn (T.done X rfl rfl rfl hc i pins s3 σ3 H3 X.xe I3 (stat fr3) st3 stop) fun r s4 ⟨hr, I4⟩ => ?_)
    subst hr
    exact wpAny_execs_nil ⟨σ3, H3, I4, qn⟩
  · refine wpAny_passesOwn hp (thn (T.item X rfl rfl rfl hc i pins s3 σ3 H3 X.xe I3 (stat fr3) st3 go) fun r s4 ⟨u, hr, h4⟩ => ?_)
    subst hr
    refine wpAny_passesOwn hp (thn h4 fun _ s5 ⟨x, H5, I5, r5, y5, st5, fr5⟩ => ?_)
    have I5' := I5.pinned (stat fr5) (T.obj _ _ st5)
    refine wpAny_passesOwn hp (thn (hg _ s5 σ3 H5 x u _ I5' r5 (step x H5 y5)) fun _ s6 ⟨σ6, H6, I6, q6⟩ => ?_)
    refine wpAny_passesOwn hp (thn (hb _ s6 σ6 H6 _ I6 q6) fun f s7 q7 => ?_)
    have again : ∀ {σ7 : St} {H7 : Hp}, Inv X (pins ++ pinsAt fp s5.heap) σ7 H7 s7 → N σ7 H7 → ∃ m, m < n ∧ ∃ i σ' H', Inv X pins σ' H' s7 ∧ tn i s7.heap ∧ (∀ b ∈ fp, H' b = none) ∧ W i m σ' H' := fun {σ7 H7} I7 n7 => by
      obtain ⟨m', hm, w7⟩ := hN σ7 H7 n7
      refine ⟨m', hm, i + 1, σ7, H7, I7.unpinned, T.keep _ _ _ st5 fun b hb o e => (I7.pin (b, o) (List.mem_append_right _ (List.mem_append_right _ (mem_pinsAt hb e)))).1, fun b hb => ?_, w7⟩
      obtain ⟨o, e, d⟩ := T.obj _ _ st5 b hb
      exact (I7.pin (b, o) (List.mem_append_right _ (List.mem_append_right _ (mem_pinsAt hb e)))).2.1
    cases f with
    | next => obtain ⟨σ7, H7, I7, n7⟩ := q7; exact again I7 n7
    | cont => obtain ⟨σ7, H7, I7, n7⟩ := q7; exact again I7 n7
    | brk => obtain ⟨σ7, H7, I7, q7⟩ := q7; exact ⟨σ7, H7, I7.unpinned, q7⟩
    | ret v => obtain ⟨x7, σ7, H7, I7, r7, q7⟩ := q7; exact ⟨x7, σ7, H7, I7.unpinned, r7, q7⟩
end
end L2
namespace L2
open PySem PySem.Spec PyProof.Rows
abbrev R2 := V → V → Hp → VK → Prop
def OpR (X : Cx) (f : Value → Value → Sem Value) (r : R2) : Prop :=
  ∀ (pins : List (Addr × Obj)) (s : Shared) (σ : St) (H : Hp) (x y : V) (v u : Value) (Q : VK), Inv X pins σ H s → RelV x v → RelV y u → r x y H Q →
    wpAny (model X.prog X.w) X.A (f v u) (EP X pins σ Q) X.xe s
def UnR (X : Cx) (f : Value → Sem Value) (r : V → Hp → VK → Prop) : Prop :=
  ∀ (pins : List (Addr × Obj)) (s : Shared) (σ : St) (H : Hp) (x : V) (v : Value) (Q : VK), Inv X pins σ H s → RelV x v → r x H Q →
    wpAny (model X.prog X.w) X.A (f v) (EP X pins σ Q) X.xe s
def CallR (X : Cx) (f : Value) (r : List V → Hp → VK → Prop) : Prop :=
  ∀ (pins : List (Addr × Obj)) (s : Shared) (σ : St) (H : Hp) (xs : List V) (us : List Value) (Q : VK), Inv X pins σ H s → Vals xs us → r xs H Q →
    wpAny (model X.prog X.w) X.A (call f us) (EP X pins σ Q) X.xe s
def tOp (r : R2) (ta tb : TE) : TE := fun σ H Q => ta σ H fun x H1 => tb σ H1 fun y H2 => r x y H2 Q
def tUn (r : V → Hp → VK → Prop) (ta : TE) : TE := fun σ H Q => ta σ H fun x H1 => r x H1 Q
def rI (C : Int → Int → Prop) (g : Int → Int → V) : R2 := fun x y H Q => ∃ i j, x = .int i ∧ y = .int j ∧ C i j ∧ Q (g i j) H
def rI0 (g : Int → Int → V) : R2 := fun x y H Q => ∃ i j, x = .int i ∧ y = .int j ∧ Q (g i j) H
def rU (g : Int → V) : V → Hp → VK → Prop := fun x H Q => ∃ i, x = .int i ∧ Q (g i) H
section
variable {X : Cx} {a b c : Expr} {ta tb tc : TE} {pos : Pos}
theorem binT (ha : PE X a ta) (hb : PE X b tb) {pins : List (Addr × Obj)} {s : Shared} {σ : St} {H : Hp} {R : V → V → Hp → Prop} (I : Inv X pins σ H s)
    (h : ta σ H fun x H1 => tb σ H1 fun y H2 => R x y H2) {Q : Value → Shared → Prop} {f : Value → Value → Sem Value}
    (hf : ∀ v u s2 x y H2, Inv X pins σ H2 s2 → RelV x v → RelV y u → R x y H2 → wpAny (model X.prog X.w) X.A (f v u) Q X.xe s2) :
    wpAny (model X.prog X.w) X.A (eval a X.env) (fun v s₁ => wpAny (model X.prog X.w) X.A (eval b X.env) (fun u s₂ => wpAny (model X.prog X.w) X.A (f v u) Q X.xe s₂) X.xe s₁) X.xe s := by
  refine thn (ha pins s σ H _ I h) fun v s1 ⟨x, H1, I1, r1, q1⟩ => ?_
  refine thn (hb pins s1 σ H1 _ I1 q1) fun u s2 ⟨y, H2, I2, r2, q2⟩ => ?_
  exact hf v u s2 x y H2 I2 r1 r2 q2
theorem pe_op {op : Operator} {r : R2} (ho : OpR X (binaryOp op) r) (ha : PE X a ta) (hb : PE X b tb) : PE X (.BinOp a op b pos) (tOp r ta tb) := by
  intro pins s σ H Q I h
  exact wpAny_BinOp (binT ha hb I h fun v u s2 x y H2 I2 rx ry q => ho pins s2 σ H2 x y v u Q I2 rx ry q)
theorem pe_un {op : UnaryOp} {r : V → Hp → VK → Prop} (ho : UnR X (unaryOp op) r) (ha : PE X a ta) : PE X (.UnaryOp op a pos) (tUn r ta) := by
  intro pins s σ H Q I h
  exact UnaryOp_ (thn (ha pins s σ H _ I h) fun v s1 ⟨x, H1, I1, r1, q1⟩ => ho pins s1 σ H1 x v Q I1 r1 q1)
theorem opI {f : Value → Value → Sem Value} {C : Int → Int → Prop} {g : Int → Int → Int}
    (rule : ∀ (i j : Int) (t u : Tok) (s : Shared) (Q : Value → Shared → Prop) (E : Value → Shared → Prop), C i j → Q (.int (g i j) s.toks) { s with toks := s.toks + 1 } → wpAny (model X.prog X.w) X.A (f (.int i t) (.int j u)) Q E s) :
    OpR X f (rI C fun i j => .int (g i j)) := by
  intro pins s σ H x y v u Q I rx ry h
  obtain ⟨i, j, rfl, rfl, hc, q⟩ := h
  obtain ⟨t, rfl⟩ := rx
  obtain ⟨t', rfl⟩ := ry
  exact rule i j t t' s _ _ hc ⟨.int (g i j), H, I.tok _, ⟨_, rfl⟩, q⟩
theorem opI0 {f : Value → Value → Sem Value} {g : Int → Int → Int}
    (rule : ∀ (i j : Int) (t u : Tok) (s : Shared) (Q : Value → Shared → Prop) (E : Value → Shared → Prop), Q (.int (g i j) s.toks) { s with toks := s.toks + 1 } → wpAny (model X.prog X.w) X.A (f (.int i t) (.int j u)) Q E s) :
    OpR X f (rI0 fun i j => .int (g i j)) := by
  intro pins s σ H x y v u Q I rx ry h
  obtain ⟨i, j, rfl, rfl, q⟩ := h
  obtain ⟨t, rfl⟩ := rx
  obtain ⟨t', rfl⟩ := ry
  exact rule i j t t' s _ _ ⟨.int (g i j), H, I.tok _, ⟨_, rfl⟩, q⟩
theorem opB0 {f : Value → Value → Sem Value} {g : Int → Int → Bool}
    (rule : ∀ (i j : Int) (t u : Tok) (s : Shared) (Q : Value → Shared → Prop) (E : Value → Shared → Prop), Q (.bool (g i j)) s → wpAny (model X.prog X.w) X.A (f (.int i t) (.int j u)) Q E s) :
    OpR X f (rI0 fun i j => .bl (g i j)) := by
  intro pins s σ H x y v u Q I rx ry h
  obtain ⟨i, j, rfl, rfl, q⟩ := h
  obtain ⟨t, rfl⟩ := rx
  obtain ⟨t', rfl⟩ := ry
  exact rule i j t t' s _ _ ⟨.bl (g i j), H, I, rfl, q⟩
def CPow (i j : Int) : Prop := 0 ≤ j ∧ j ≤ 1000000 ∧ i.natAbs < 2 ^ 64
theorem op_add : OpR X (binaryOp .Add) (rI0 fun i j => .int (i + j)) := opI0 fun _ _ _ _ _ _ _ q => add_int q
theorem op_sub : OpR X (binaryOp .Sub) (rI0 fun i j => .int (i - j)) := opI0 fun _ _ _ _ _ _ _ q => sub_int q
theorem op_modN : OpR X (binaryOp .Mod) (rI (fun _ j => j ≠ 0) fun i j => .int (i.fmod j)) := opI fun _ _ _ _ _ _ _ hc q => mod_int' hc q
theorem unI {f : Value → Sem Value} {g : Int → Int}
    (rule : ∀ (i : Int) (t : Tok) (s : Shared) (Q : Value → Shared → Prop) (E : Value → Shared → Prop), Q (.int (g i) s.toks) { s with toks := s.toks + 1 } → wpAny (model X.prog X.w) X.A (f (.int i t)) Q E s) :
    UnR X f (rU fun i => .int (g i)) := by
  intro pins s σ H x v Q I rx h
  obtain ⟨i, rfl, q⟩ := h
  obtain ⟨t, rfl⟩ := rx
  exact rule i t s _ _ ⟨.int (g i), H, I.tok _, ⟨_, rfl⟩, q⟩
theorem un_neg : UnR X (unaryOp .USub) (rU fun i => .int (-i)) := unI fun _ _ _ _ _ q => neg_int q
end
section
variable {X : Cx} {a b c : Expr} {ta tb tc : TE} {pos : Pos}
theorem fin_bl {pins : List (Addr × Obj)} {σ : St} {H : Hp} {s : Shared} {Q : VK} {k k' : Bool} (I : Inv X pins σ H s) (q : Q (.bl k) H) (e : k = k') : EP X pins σ Q (.bool k') s := by
  subst e
  exact ⟨.bl k, H, I, rfl, q⟩
theorem op_lt : OpR X (compareOp .Lt) (rI0 fun i j => .bl (decide (i < j))) := opB0 fun _ _ _ _ _ _ _ q => lt_int q
theorem op_le : OpR X (compareOp .LtE) (rI0 fun i j => .bl (decide (i ≤ j))) := opB0 fun _ _ _ _ _ _ _ q => le_int q
theorem op_gt : OpR X (compareOp .Gt) (rI0 fun i j => .bl (decide (j < i))) := opB0 fun _ _ _ _ _ _ _ q => gt_int q
theorem nomark (b : Expr) {op : CmpOp} (h : op ≠ .In := by decide) (h2 : op ≠ .NotIn := by decide) : behindInMarks op b = false := by
  have e1 : (op == CmpOp.In) = false := by cases op <;> first | rfl | exact absurd rfl h
  have e2 : (op == CmpOp.NotIn) = false := by cases op <;> first | rfl | exact absurd rfl h2
  cases b <;> simp [behindInMarks, e1, e2]
theorem pe_cmpR {op : CmpOp} {r : R2} (ho : OpR X (compareOp op) r) (ha : PE X a ta) (hb : PE X b tb) (hm : behindInMarks op b = false) : PE X (.Compare a [op] [b] pos) (tOp r ta tb) := by
  intro pins s σ H Q I h
  exact wpAny_Compare1 (binT ha hb I h fun v u s2 x y H2 I2 rx ry q => ho pins s2 σ H2 x y v u Q I2 rx ry q) hm
def tTest (t : TE) : TT := fun σ H Q => t σ H fun x H' => ∃ k, x = .bl k ∧ Q k H'
theorem pt_cmpR {op : CmpOp} {r : R2} (ho : OpR X (compareOp op) r) (ha : PE X a ta) (hb : PE X b tb) (hm : behindInMarks op b = false) : PT X (.Compare a [op] [b] pos) (tTest (tOp r ta tb)) := by
  intro pins s σ H Q I h
  refine wpAny_isTrue_Compare1 (thn (ha pins s σ H _ I h) fun v s1 ⟨x, H1, I1, r1, q1⟩ => thn (hb pins s1 σ H1 _ I1 q1) fun u s2 ⟨y, H2, I2, r2, q2⟩ =>
    thn (ho pins s2 σ H2 x y v u _ I2 r1 r2 q2) fun c s3 ⟨z, H3, I3, r3, k, e, q3⟩ => ?_) hm
  subst e
  cases r3
  exact wpAny_truthy_bool ⟨H3, I3, q3⟩
theorem line63 : (sizeLine : Nat) < 2 ^ 63 := by rw [sizeLine_eq]; decide
theorem vals1 {x : V} {us : List Value} (r : Vals [x] us) : ∃ u, us = [u] ∧ RelV x u := by
  cases r with
  | cons r1 r2 => cases r2; exact ⟨_, rfl, r1⟩
theorem vals2 {x y : V} {us : List Value} (r : Vals [x, y] us) : ∃ u w', us = [u, w'] ∧ RelV x u ∧ RelV y w' := by
  cases r with
  | cons r1 r2 =>
    cases r2 with
    | cons r3 r4 => cases r4; exact ⟨_, _, rfl, r1, r3⟩
theorem call_abs : CallR X (.builtin "abs") (fun xs H Q => ∃ i, xs = [.int i] ∧ Q (.int (if i < 0 then -i else i)) H) := by
  intro pins s σ H xs us Q I r h
  obtain ⟨i, rfl, q⟩ := h
  obtain ⟨u, rfl, t, rfl⟩ := vals1 r
  exact call_abs_int fun u tk => ⟨.int (if i < 0 then -i else i), H, I.tok _, ⟨_, rfl⟩, q⟩
theorem call_max2 (hc : X.calm = true) : CallR X (.builtin "max") (fun xs H Q => ∃ i j, xs = [.int i, .int j] ∧ Q (.int (if j > i then j else i)) H) := by
  intro pins s σ H xs us Q I r h
  obtain ⟨i, j, rfl, q⟩ := h
  obtain ⟨u, w', rfl, ⟨t, rfl⟩, ⟨t', rfl⟩⟩ := vals2 r
  refine max_two_ints (I.ok.hd hc) fun h' tk k => ⟨_, H, I.kept k, ?_, q⟩
  by_cases hj : j > i
  · rw [if_pos hj, if_pos hj]; exact ⟨_, rfl⟩
  · rw [if_neg hj, if_neg hj]; exact ⟨_, rfl⟩
theorem call_min2 (hc : X.calm = true) : CallR X (.builtin "min") (fun xs H Q => ∃ i j, xs = [.int i, .int j] ∧ Q (.int (if j < i then j else i)) H) := by
  intro pins s σ H xs us Q I r h
  obtain ⟨i, j, rfl, q⟩ := h
  obtain ⟨u, w', rfl, ⟨t, rfl⟩, ⟨t', rfl⟩⟩ := vals2 r
  refine min_two_ints (I.ok.hd hc) fun h' tk k => ⟨_, H, I.kept k, ?_, q⟩
  by_cases hj : j < i
  · rw [if_pos hj, if_pos hj]; exact ⟨_, rfl⟩
  · rw [if_neg hj, if_neg hj]; exact ⟨_, rfl⟩
theorem call_int1 : CallR X (.type "int") (fun xs H Q => (∃ i, xs = [.int i] ∧ Q (.int i) H) ∨ ∃ k, xs = [.bl k] ∧ Q (.int (if k then 1 else 0)) H) := by
  intro pins s σ H xs us Q I r h
  rcases h with ⟨i, rfl, q⟩ | ⟨k, rfl, q⟩
  · obtain ⟨u, rfl, t, rfl⟩ := vals1 r
    exact call_int_int ⟨.int i, H, I, ⟨_, rfl⟩, q⟩
  · obtain ⟨u, rfl, r1⟩ := vals1 r
    cases r1
    exact call_int_bool ⟨.int (if k then 1 else 0), H, I.tok _, ⟨_, rfl⟩, q⟩
end
end L2
namespace L2
open PySem PySem.Spec PyProof.Rows
structure ObjM (h : Heap) (x dx C : Addr) (mA : Str → Option Value) : Prop where
  obj : h.get? x = some (PySem.W.instObj C dx)
  ns : h.Ns1 dx mA
  ne : dx ≠ x
section
variable {prog : Program} {w : World} {A : Around} {E : Value → Shared → Prop} {s : Shared} {K : PySem.W.Frag} {x dx C f : Addr} {mA : Str → Option Value} {name : Str} {v : Value}
end
section
variable {P : Program} {w : World} {H H' : Hp} {h h' : Heap} {a C dx : Addr} {fs fs' : List (Str × V)}
end
structure Cls (K : PySem.W.Frag) (C : Addr) : Prop where
  pg : PySem.W.plainGet K C Str.empty = true
  hd : PySem.W.hasDictIn K C = true
  po : PySem.W.plainOver K C = true
  sa : PySem.W.findIn K (.ref C) "__setattr__" = some (some (.builtin "object.__setattr__"))
structure Con (K : PySem.W.Frag) (C : Addr) (f : Str) (v : V) (u : Value) : Prop where
  at_ : PySem.W.findIn K (.ref C) f = some (some u)
  rel : RelV v u
  get : PySem.W.specialIn K u "__get__" = some none
  cp : PySem.W.copiedNames.contains f = false
structure Meth (K : PySem.W.Frag) (C : Addr) (m : Str) (f : Addr) : Prop where
  at_ : PySem.W.findIn K (.ref C) m = some (some (.ref f))
  fn : PySem.W.isFn K (.ref f) = true
  kp : PySem.W.keepIn K (.ref f) = true
section
variable {X : Cx} {pins : List (Addr × Obj)} {σ : St} {H : Hp} {s : Shared} {a C dx : Addr} {fs : List (Str × V)} {f : Str} {v : V} {A : Around} {E : Value → Shared → Prop}
end
section
variable {X : Cx} {o e value : Expr} {f : Str} {pos pos' tpos : Pos} {ta tv : TE}
end
section
variable {X : Cx} {pins : List (Addr × Obj)} {σ : St} {H : Hp} {s : Shared} {A : Around} {E : Value → Shared → Prop} {Q : Value → Shared → Prop} {c : Value} {b : Bool}
inductive TyOf (K : PySem.W.Frag) (H : Hp) : V → Value → Prop where
  | non : TyOf K H .non (.type "NoneType")
  | bl (x : Bool) : TyOf K H (.bl x) (.type "bool")
  | int (i : Int) : TyOf K H (.int i) (.type "int")
  | str (x : Str) : TyOf K H (.str x) (.type "str")
  | flt (x : UInt64) : TyOf K H (.flt x) (.type "float")
  | lst {a : Addr} {xs : List V} (e : H a = some (.lst xs)) : TyOf K H (.ref a) (.type "list")
  | frz {a : Addr} {o : Obj} {xs : List V} (e : H a = some (.frz o (.lst xs))) : TyOf K H (.ref a) (.type "list")
  | tup {a : Addr} {xs : List V} (e : H a = some (.tup xs)) : TyOf K H (.ref a) (.type "tuple")
  | dK {a : Addr} {kvs : List (Key × V)} (e : H a = some (.dK kvs)) : TyOf K H (.ref a) (.type "dict")
  | dT {a : Addr} {kvs : List (List Key × V)} (e : H a = some (.dT kvs)) : TyOf K H (.ref a) (.type "dict")
  | ins {a C dx : Addr} {fs : List (Str × V)} (e : H a = some (.ins C dx fs)) (cl : Cls K C) (ha : PySem.W.findIn K (.ref C) "__class__" = some (some (.builtin "object.__class__")))
      (hn : PySem.W.specialIn K (.builtin "object.__class__") "__get__" = some (some (.builtin "getset_descriptor.__get__"))) (htk : PySem.W.takesIn K (.builtin "object.__class__") = some true)
      (hm : PySem.W.mroIn K C (.type "object") = some true) : TyOf K H (.ref a) (.ref C)
end
end L2
namespace L2
open PySem PySem.Spec PyProof.Rows
structure Room (k : Nat) (A : Around) : Prop where
  hd : A.handled = none
  dp : A.depth + 3 * k + 5 < recursionLimit
  un : A.units + 16 * k + 200 < cLine
theorem Room.mono {j k : Nat} {A : Around} (r : Room k A) (h : j ≤ k) : Room j A := ⟨r.hd, by have := r.dp; omega, by have := r.un; omega⟩
theorem Room.deeper {k : Nat} {A : Around} (r : Room (k + 1) A) (env : Env) : Room k (A.deeper env) :=
  ⟨r.hd, by have := r.dp; show A.depth + 1 + 3 * k + 5 < _; omega, by have := r.un; show A.units + 3 + 16 * k + 200 < _; omega⟩
theorem Room.depth {k : Nat} {A : Around} (r : Room k A) : A.depth < recursionLimit := by have := r.dp; omega
theorem Room.units {k : Nat} {A : Around} (r : Room k A) : A.units + 64 < cLine := by have := r.un; omega
def tNil : TA := fun _ H Q => Q [] H
def tCons (ta : TE) (tr : TA) : TA := fun σ H Q => ta σ H fun x H1 => tr σ H1 fun xs H2 => Q (x :: xs) H2
section
variable {X : Cx} {e : Expr} {es : List Expr} {te : TE} {t : TA} {pos : Pos}
theorem pa_nil : PA X [] tNil := fun _ _ _ _ H Q I h => Calls.spliced_nil ⟨[], H, I, .nil, h⟩
theorem pa_cons (ha : PE X e te) (hr : PA X es t) (hs : starEach (e :: es) X.env = (false, eval e X.env) :: starEach es X.env := by rfl) : PA X (e :: es) (tCons te t) := by
  intro pos pins s σ H Q I h
  rw [hs]
  show wpAny _ _ (spliced ((false, eval e X.env) :: backTo pos (starEach es X.env))) _ _ s
  refine Calls.spliced_cons (thn (ha pins s σ H _ I h) fun u s1 ⟨x, H1, I1, r1, q1⟩ => ?_)
  exact thn (hr pos pins s1 σ H1 _ I1 q1) fun us s2 ⟨xs, H2, I2, r2, q2⟩ => ⟨x :: xs, H2, I2, .cons r1 r2, q2⟩
def tTup (t : TA) : TE := fun σ H Q => t σ H fun xs H1 => xs.length ≤ sizeLine ∧ ∀ p, H1 p = none → Q (.ref p) (upd H1 p (.tup xs))
def tLst (t : TA) : TE := fun σ H Q => t σ H fun xs H1 => xs.length ≤ sizeLine ∧ ∀ p, H1 p = none → Q (.ref p) (upd H1 p (.lst xs))
theorem pe_tup {x1} (h : PA X es t) : PE X (.Tuple es x1 pos) (tTup t) := by
  intro pins s σ H Q I hq
  refine wpAny_Tuple_spliced (thn (h pos pins s σ H _ I hq) fun us s1 ⟨xs, H1, I1, r, z, q⟩ => ⟨by rw [← r.length]; exact z, ?_⟩)
  have hf : H1 s1.heap.objs.size = none := I1.hok.fresh (Nat.le_refl _)
  refine ⟨.ref s1.heap.objs.size, upd H1 s1.heap.objs.size (.tup xs), I1.laid (t' := s1.toks) (fun b u e => Heap.get?_push_of_some _ e) (Nat.le_refl _) ?_, rfl, q _ hf⟩
  exact ⟨z, us, r, ⟨_, Heap.get?_push_size _ rfl, rfl, _, rfl⟩⟩
theorem pe_lst (h : PA X es t) : PE X (.List es pos) (tLst t) := by
  intro pins s σ H Q I hq
  refine wpAny_List_spliced (thn (h pos pins s σ H _ I hq) fun us s1 ⟨xs, H1, I1, r, z, q⟩ => ⟨by rw [← r.length]; exact z, ?_⟩)
  have hf : H1 s1.heap.objs.size = none := I1.hok.fresh (Nat.le_refl _)
  refine ⟨.ref s1.heap.objs.size, upd H1 s1.heap.objs.size (.lst xs), I1.laid (t' := s1.toks) (fun b u e => Heap.get?_push_of_some _ e) (Nat.le_refl _) ?_, rfl, q _ hf⟩
  exact ⟨z, us, 0, r, Heap.get?_push_size _ rfl⟩
end
abbrev Sp := List V → Hp → VK → XK → Prop
abbrev CXT := List Env → Hp → Shared → XK → Value → Shared → Prop
structure Env0 (P : Program) (w : World) (K : PySem.W.Frag) (mg : Str → Option Value) (base : Heap) (A : Around) (outer : List Env) (s : Shared) (H : Hp) : Prop where
  frames : A.frames = some outer
  mod : Mod K mg base
  bs : ∀ b o, base.get? b = some o → s.heap.get? b = some o ∧ H b = none
  bsz : base.objs.size ≤ s.heap.objs.size
  funs : s.heap.FunFrames base outer
  frf : ∀ b ∈ frs outer, H b = none
  hok : HOk P w H s.heap
  bare : AllBare s.gens
def CE (outer : List Env) (P : Program) (w : World) (H : Hp) (s : Shared) (Q : VK) (u : Value) (s' : Shared) : Prop :=
  ∃ v H', s'.os = s.os ∧ AllBare s'.gens ∧ Un (frs outer) [] H H' s.heap s'.heap ∧ HOk P w H' s'.heap ∧ RelV v u ∧ Q v H'
def CR (CX : CXT) (outer : List Env) (P : Program) (w : World) (H : Hp) (s : Shared) (Q : VK) (E : XK) (r : Result) (s' : Shared) : Prop :=
  match r with
  | .ok (.ret u) => CE outer P w H s Q u s'
  | .ok _ => False
  | .error e => CX outer H s E e s'
structure FnOk (P : Program) (w : World) (K : PySem.W.Frag) (mg : Str → Option Value) (base : Heap) (CX : CXT) (k : Nat) (f : Addr) (fd : FuncData) (ps : List Str) (sp : Sp) : Prop where
  len : ∀ vs H Q E, sp vs H Q E → vs.length = ps.length
  run : ∀ (A : Around) (outer : List Env) (s : Shared) (H : Hp) (args : Args) (us : List Value) (vs : List V) (Q : VK) (E : XK), Room k A → Env0 P w K mg base A outer s H → BindsTo s fd args (ps.zip us) → Vals vs us → sp vs H Q E →
    codeAny (model P w) A (.call (.ref f) args) (CR CX outer P w H s Q E) s
section
variable {X : Cx} {pins : List (Addr × Obj)} {σ : St} {H : Hp} {s s' : Shared}
theorem Inv.env0 (I : Inv X pins σ H s) : Env0 X.prog X.w X.K X.mg X.base X.A X.stack s H :=
  ⟨I.ok.frames, I.ok.mod, I.bs, Nat.le_trans I.ok.bsz I.sz, I.stack, I.stkFree, I.hok, I.bare⟩
theorem Inv.after {Q : VK} {u : Value} (I : Inv X pins σ H s) (h : CE X.stack X.prog X.w H s Q u s') : EP X pins σ Q u s' := by
  obtain ⟨v, H', os, bare, un, hok, r, q⟩ := h
  obtain ⟨hh, g, d, t, os'⟩ := s'
  obtain rfl : os' = s.os := os
  exact ⟨v, H', I.call (h' := hh) (g' := g) (d' := d) (t' := t) (ch := []) un hok bare (fun b z => absurd z (by simp)), r, q⟩
end
def tCall (sp : Sp) (dvs : List V) (E : XK) (t : TA) : TE := fun σ H Q => t σ H fun vs H1 => sp (vs ++ dvs) H1 Q E
def Binds (K : PySem.W.Frag) (fd : FuncData) (ps : List Str) (ds : List Value) : Prop :=
  ∀ (s : Shared) (us : List Value), K.In s.heap → (us ++ ds).length = ps.length → BindsTo s fd ⟨us, []⟩ (ps.zip (us ++ ds))
theorem Binds.all {K : PySem.W.Frag} {fd : FuncData} {ps : List Str} (h : ∀ us : List Value, us.length = ps.length → bindArgs fd ⟨us, []⟩ = pure (ps.zip us)) : Binds K fd ps [] := fun s us _ hl => by
  rw [List.append_nil] at hl ⊢
  exact .of_eq (h us hl)
def Passes (CX : CXT) (X : Cx) (E : XK) : Prop := ∀ (pins : List (Addr × Obj)) (σ : St) (H : Hp) (s : Shared) (e : Value) (s' : Shared), Inv X pins σ H s → CX X.stack H s E e s' → X.xe e s'
section
variable {X : Cx} {CX : CXT} {k : Nat} {f C : Addr} {fd : FuncData} {ps : List Str} {sp : Sp} {dvs : List V} {ds : List Value} {E : XK} {x m : Str} {p pos apos : Pos} {e o : Expr} {es : List Expr} {ta : TE} {t : TA}
theorem run_fn {pins : List (Addr × Obj)} {σ : St} {H : Hp} {s : Shared} {Q : VK} {us : List Value} {vs : List V} (F : FnOk X.prog X.w X.K X.mg X.base CX k f fd ps sp) (hr : Room k X.A) (hb : Binds X.K fd ps ds) (hd : Vals dvs ds) (hx : Passes CX X E)
    (I : Inv X pins σ H s) (r : Vals vs us) (h : sp (vs ++ dvs) H Q E) : wpAny (model X.prog X.w) X.A (call (.ref f) us) (EP X pins σ Q) X.xe s := by
  have r2 : Vals (vs ++ dvs) (us ++ ds) := r.append hd
  have hl : (us ++ ds).length = ps.length := by rw [← r2.length]; exact F.len _ _ _ _ h
  refine wpAny_call (codeAny_mono (F.run X.A X.stack s H ⟨us, []⟩ (us ++ ds) (vs ++ dvs) Q E hr I.env0 (hb s us I.kIn hl) r2 h) fun r s' hq => ?_)
  cases r with
  | error e => exact hx pins σ H s e s' I hq
  | ok fl =>
    cases fl with
    | ret u => exact I.after hq
    | next => exact False.elim hq
    | brk => exact False.elim hq
    | cont => exact False.elim hq
theorem pe_call (F : FnOk X.prog X.w X.K X.mg X.base CX k f fd ps sp) (hr : Room k X.A) (hg : Gl X x) (hm : X.mg x = some (.ref f)) (hk : PySem.W.keepIn X.K (.ref f) = true) (hb : Binds X.K fd ps ds) (hd : Vals dvs ds) (hx : Passes CX X E)
    (ha : PA X (e :: es) t) (hdb : (x == ("__debug__" : Str)) = false := by decide) (he : starEach (e :: es) X.env = (false, eval e X.env) :: starEach es X.env := by rfl) (hpl : (backTo pos (starEach es X.env)).any (·.1) = false := by rfl) :
    PE X (.Call (.Name x p) (e :: es) [] pos) (tCall sp dvs E t) := by
  intro pins s σ H Q I h
  refine wpAny_Call_Name_kw (ld_glob I hg hm ?_ hdb)
  refine PySem.W.callWith_K (h₀ := X.base) I.ok.mod.kin hk (thn (ha pos pins s σ H _ I h) fun us s1 ⟨vs, H1, I1, r, q⟩ => ⟨I1.kIn, ?_⟩) he hpl
  exact run_fn F hr hb hd hx I1 r q
structure Mk (K : PySem.W.Frag) (C f : Addr) : Prop where
  makes : PySem.W.makesIn K C = true
  init : PySem.W.findIn K (.ref C) "__init__" = some (some (.ref f))
  fn : PySem.W.isFn K (.ref f) = true
  kp : PySem.W.keepIn K (.ref C) = true
end
section
variable {X : Cx} {CX : CXT} {k : Nat} {f C : Addr} {fd : FuncData} {ps ks : List Str} {sp : Sp} {E : XK} {x m : Str} {p pos apos kpos : Pos} {e o : Expr} {es : List Expr} {kws : List Keyword} {te ta : TE} {t tk : TA} {nm : Option Str}
structure KBinds (K : PySem.W.Frag) (fd : FuncData) (ps ks : List Str) (g : List Value → List Value → List Value) (gV : List V → List V → List V) : Prop where
  to : ∀ (s : Shared) (us ws : List Value), K.In s.heap → (g us ws).length = ps.length → BindsTo s fd ⟨us, ks.zip ws⟩ (ps.zip (g us ws))
  rel : ∀ {vs : List V} {us : List Value} {zs : List V} {ws : List Value}, Vals vs us → Vals zs ws → Vals (gV vs zs) (g us ws)
variable {g : List Value → List Value → List Value} {gV : List V → List V → List V}
end
structure FnScope (N P : List Str) (sc : Scope) : Prop where
  kind : sc.kind = .function
  co : sc.isCoroutine = false
  gen : sc.isGenerator = false
  nd : N.Nodup
  pre : N.take P.length = P
  par : ∀ x ∈ P, sc.names.lookup x = some .local ∨ sc.names.lookup x = some .cell
  nofree : ∀ y ∈ sc.names, y.2 ≠ .free
theorem bindL_out {kindOf : Str → Option NameKind} {x : Str} : ∀ {binds : List (Str × Value)} {m : Str → Option Value}, (∀ v, (x, v) ∉ binds) → bindL kindOf binds m x = m x
  | [], _, _ => rfl
  | (n, v) :: r, m, h => by
    unfold bindL
    rw [bindL_out fun w hw => h w (List.mem_cons_of_mem _ hw)]
    split
    · have : x ≠ n := by rintro rfl; exact h v List.mem_cons_self
      simp [this]
    · rfl
theorem bindC_out {kindOf : Str → Option NameKind} {x : Str} : ∀ {binds : List (Str × Value)} {m : Str → Option Value}, (∀ v, (x, v) ∉ binds) → bindC kindOf binds m x = m x
  | [], _, _ => rfl
  | (n, v) :: r, m, h => by
    unfold bindC
    rw [bindC_out fun w hw => h w (List.mem_cons_of_mem _ hw)]
    split
    · rfl
    · have : x ≠ n := by rintro rfl; exact h v List.mem_cons_self
      simp [this]
theorem bindL_get {kindOf : Str → Option NameKind} {x : Str} {v : Value} : ∀ {P : List Str} {vs : List Value} {i : Nat} {m : Str → Option Value}, P.Nodup → P[i]? = some x → vs[i]? = some v → kindOf x = some .local →
    bindL kindOf (P.zip vs) m x = some v
  | [], _, _, _, _, h, _, _ => by simp at h
  | _ :: _, [], _, _, _, _, h, _ => by simp at h
  | p :: P, w :: vs, 0, m, nd, h1, h2, hk => by
    simp at h1 h2; subst h1; subst h2
    show bindL kindOf ((p, w) :: P.zip vs) m p = _
    unfold bindL
    rw [bindL_out fun v hv => (List.nodup_cons.mp nd).1 (List.of_mem_zip hv).1, if_pos hk]
    simp
  | p :: P, w :: vs, i + 1, m, nd, h1, h2, hk => by
    show bindL kindOf ((p, w) :: P.zip vs) m x = _
    unfold bindL
    exact bindL_get (i := i) (List.nodup_cons.mp nd).2 (by simpa using h1) (by simpa using h2) hk
theorem bindC_get {kindOf : Str → Option NameKind} {x : Str} {v : Value} : ∀ {P : List Str} {vs : List Value} {i : Nat} {m : Str → Option Value}, P.Nodup → P[i]? = some x → vs[i]? = some v → kindOf x ≠ some .local →
    bindC kindOf (P.zip vs) m x = some v
  | [], _, _, _, _, h, _, _ => by simp at h
  | _ :: _, [], _, _, _, _, h, _ => by simp at h
  | p :: P, w :: vs, 0, m, nd, h1, h2, hk => by
    simp at h1 h2; subst h1; subst h2
    show bindC kindOf ((p, w) :: P.zip vs) m p = _
    unfold bindC
    rw [bindC_out fun v hv => (List.nodup_cons.mp nd).1 (List.of_mem_zip hv).1, if_neg hk]
    simp
  | p :: P, w :: vs, i + 1, m, nd, h1, h2, hk => by
    show bindC kindOf ((p, w) :: P.zip vs) m x = _
    unfold bindC
    exact bindC_get (i := i) (List.nodup_cons.mp nd).2 (by simpa using h1) (by simpa using h2) hk
def start (N : List Str) (vs : List V) : St := vs.map some ++ List.replicate (N.length - vs.length) none
def cxOf (CX : CXT) (P : Program) (w : World) (K : PySem.W.Frag) (mg : Str → Option Value) (base : Heap) (N : List Str) (qual : Str) (scope : Scope) (f : Addr) (cd : Value) (A : Around) (outer : List Env) (s : Shared) (H : Hp) (E : XK) : Cx where
  prog := P
  w := w
  K := K
  mg := mg
  base := base
  A := A.deeper (envOfC qual scope s.heap.objs.size f cd)
  N := N
  s₀ := s
  H₀ := H
  env := envOfC qual scope s.heap.objs.size f cd
  outer := outer
  stack := envOfC qual scope s.heap.objs.size f cd :: outer
  ex := []
  calm := true
  fn := fun _ => true
  pn := []
  xe := fun e s' => wpAny (model P w) (A.deeper (envOfC qual scope s.heap.objs.size f cd)) (leaving (envOfC qual scope s.heap.objs.size f cd) e) (fun _ s'' => CX outer H s E e s'') (fun e' s'' => CX outer H s E e' s'') s'
theorem cell_has {sc : Scope} {n : Nat} {x : Str} (h : sc.names.lookup x = some .cell) : ∃ c, (cellsFrom n sc.names []).lookup x = some c := by
  have q := PySem.W.cellsFrom_some sc.names n [] (.inl h)
  exact Option.isSome_iff_exists.mp q
theorem inv_start {CX : CXT} {P : Program} {w : World} {K : PySem.W.Frag} {mg : Str → Option Value} {base : Heap} {N ps : List Str} {qual : Str} {scope : Scope} {f : Addr} {cd : Value} {A : Around} {outer : List Env} {s s1 : Shared} {H : Hp} {E : XK} {us : List Value} {vs : List V}
    (S : FnScope N ps scope) (hd : A.handled = none) (e0 : Env0 P w K mg base A outer s H) (hl : vs.length = ps.length) (r : Vals vs us)
    (x : InCallC s s.heap.objs.size (bindL (envOfC qual scope s.heap.objs.size f cd).kindOf (ps.zip us) fun _ => none) (cellsFrom (s.heap.objs.size + 1) scope.names []) (bindC (envOfC qual scope s.heap.objs.size f cd).kindOf (ps.zip us) fun _ => none) s1) :
    Inv (cxOf CX P w K mg base N qual scope f cd A outer s H E) [] (start N vs) H s1 := by
  have hpl : ps.length ≤ N.length := by have := congrArg List.length S.pre; rw [List.length_take] at this; omega
  obtain ⟨h1, tk, rfl, hk⟩ := x.done
  have noA : ∀ b : Addr, b ∉ (cxOf CX P w K mg base N qual scope f cd A outer s H E).ex := fun b z => absurd (show b ∈ ([] : List Addr) from z) (by simp)
  refine ⟨⟨e0.mod, S.kind, rfl, rfl, Nat.le_refl _, fun y z c h1 h2 => ?_, fun y hy => ?_, fun y c _ h => ?_, fun _ => hd, Around.frames_deeper e0.frames, .inr ⟨rfl, rfl⟩, fun b z => absurd z (noA b), e0.bs, e0.bsz, fun b _ _ => noA b, fun b z => absurd z (noA b), e0.funs, e0.frf⟩,
    rfl, e0.bare, Un.kept hk, ⟨_, x.toInCall.ns, fun i y v h1 h2 h3 => ?_⟩, fun y c h => ⟨_, x.cell y c h⟩, e0.hok.fresh (Nat.le_refl _), fun y c h => ?_, fun p hp => absurd (show p ∈ ([] : List (Addr × Obj)) from hp) (by simp), e0.hok.kept hk, ?_⟩
  · exact name_of_addr x.apart (PySem.mem_of_lookup h1) (PySem.mem_of_lookup h2)
  · have hy : scope.names.lookup y = some .cell ∨ scope.names.lookup y = some .free := hy
    rcases hy with hy | hy
    · exact cell_has hy
    · exact absurd rfl (S.nofree _ (PySem.mem_of_lookup hy))
  · exact Nat.le_of_lt (x.above y c (PySem.mem_of_lookup h))
  · have hi : i < vs.length := by
      unfold start at h2
      by_cases hi : i < vs.length
      · exact hi
      · rw [List.getElem?_append_right (by simpa using hi)] at h2
        rw [List.getElem?_replicate] at h2
        split at h2 <;> cases h2
    have ha : vs[i]? = some v := by
      unfold start at h2
      rw [List.getElem?_append_left (by simpa using hi), List.getElem?_map] at h2
      cases e : vs[i]? with
      | none => rw [e] at h2; cases h2
      | some a => rw [e] at h2; cases h2; rfl
    obtain ⟨u, hu, rv⟩ := r.get ha
    have hp : ps[i]? = some y := by
      rw [← S.pre, List.getElem?_take_of_lt (by omega)]; exact h1
    have ndP : ps.Nodup := by rw [← S.pre]; exact S.nd.sublist (List.take_sublist _ _)
    refine ⟨u, rv, ?_⟩
    rcases S.par y (List.mem_of_getElem? hp) with k | k
    · exact .inl ⟨k, bindL_get ndP hp hu k⟩
    · obtain ⟨c, e⟩ := cell_has (n := s.heap.objs.size + 1) k
      refine .inr ⟨.inl k, c, e, ?_⟩
      have q := x.cell y c e
      rw [bindC_get ndP hp hu (by show scope.names.lookup y ≠ _; rw [k]; decide)] at q
      exact q
  · exact e0.hok.fresh (Nat.le_of_lt (x.above y c (PySem.mem_of_lookup h)))
  · unfold start
    show _ = N.length
    rw [List.length_append, List.length_map, List.length_replicate]
    omega
theorem fn_of {CX : CXT} {P : Program} {w : World} {K : PySem.W.Frag} {mg : Str → Option Value} {base : Heap} {k : Nat} {f : Addr} {name qual : Str} {params : Arguments} {body : List Stmt} {scope : Scope} {dV kV doc pm cdv ct oc : Value} {an od : Option Addr}
    {osl : Array (Option Value)} {N ps : List Str} {sp : Sp} (lk : K.lookup f = some ⟨oc, od, .func (PySem.W.fnOf name qual params body scope dV kV doc pm an cdv ct), osl⟩) (hcd : PySem.W.codeIn K cdv qual = true) (S : FnScope N ps scope)
    (len : ∀ vs H Q E, sp vs H Q E → vs.length = ps.length)
    (hbody : ∀ (A : Around) (outer : List Env) (s : Shared) (H : Hp) (vs : List V) (Q : VK) (E : XK), Room k (A.deeper (envOfC qual scope s.heap.objs.size f cdv)) → sp vs H Q E →
      ∃ t, PSs (cxOf CX P w K mg base N qual scope f cdv A outer s H E) body t ∧ t { nx := fun _ H' => Q .non H', rt := Q } (start N vs) H) :
    FnOk P w K mg base CX (k + 1) f (PySem.W.fnOf name qual params body scope dV kV doc pm an cdv ct) ps sp := by
  refine ⟨len, fun A outer s H args us vs Q E hr e0 hb r hsp => ?_⟩
  have hl := len _ _ _ _ hsp
  have KX : K.In s.heap := e0.mod.kin.keeps fun b o e => (e0.bs b o e).1
  have lim : s.heap.NoLimit := e0.mod.nolimit.keeps fun b o e => (e0.bs b o e).1
  have hkind : ∀ y ∈ ps.zip us, scope.names.lookup y.1 = some .local ∨ (scope.names.lookup y.1 = some .cell ∧ ((cellsFrom (s.heap.objs.size + 1) scope.names []).lookup y.1).isSome = true) := fun ⟨n, v⟩ hy => by
    rcases S.par n (List.of_mem_zip hy).1 with q | q
    · exact .inl q
    · exact .inr ⟨q, PySem.W.cellsFrom_some _ _ _ (.inl q)⟩
  refine codeAny_call_function hr.depth (KX _ _ lk) rfl S.co S.gen rfl (PySem.W.codeRec_of KX hcd) (hb _ _ _ _ ?_)
  refine wpAny_newFunctionEnv_cells S.kind hkind fun env he s1 x => ?_
  subst he
  refine ⟨lim.keeps x.toInCall.keep, codeAny_func ?_⟩
  obtain ⟨t, ht, hq⟩ := hbody A outer s H vs Q E (hr.deeper _) hsp
  have I : Inv (cxOf CX P w K mg base N qual scope f cdv A outer s H E) [] (start N vs) H s1 := inv_start S hr.hd e0 hl r x
  refine wpAny_mono (ht [] s1 (start N vs) H _ I hq) (fun fl s' hs => ?_) fun e s' hs => hs
  have fin : ∀ {σ' : St} {H' : Hp} {v : V} {u : Value}, Inv (cxOf CX P w K mg base N qual scope f cdv A outer s H E) [] σ' H' s' → RelV v u → Q v H' → CE outer P w H s Q u s' :=
    fun {σ' H' v u} J rv q => ⟨v, H', J.os, J.bare, J.base, J.hok, rv, q⟩
  cases fl with
  | ret u =>
    obtain ⟨v, σ', H', J, rv, q⟩ := hs
    exact fin J rv q
  | next =>
    obtain ⟨σ', H', J, q⟩ := hs
    exact fin (v := V.non) (u := Value.none) J rfl q
  | brk =>
    obtain ⟨_, _, _, q⟩ := hs
    exact False.elim q
  | cont =>
    obtain ⟨_, _, _, q⟩ := hs
    exact False.elim q
end L2
namespace L2
open PySem PySem.Spec PyProof.Rows
section
variable {X : Cx} {x : Str} {p pos : Pos} {e : Expr} {es : List Expr} {t : TA} {id T : String} {r : List V → Hp → VK → Prop}
def tCB (r : List V → Hp → VK → Prop) (t : TA) : TE := fun σ H Q => t σ H fun vs H1 => r vs H1 Q
theorem pe_callB (hc : CallR X (.builtin id) r) (hg : Gl X x) (hm : X.mg x = none) (hv : bootBuiltins x = some (.builtin id)) (ha : PA X (e :: es) t) (hn : x ≠ "__name__" := by decide) (hdb : (x == ("__debug__" : Str)) = false := by decide)
    (he : starEach (e :: es) X.env = (false, eval e X.env) :: starEach es X.env := by rfl) (hpl : (backTo pos (starEach es X.env)).any (·.1) = false := by rfl) : PE X (.Call (.Name x p) (e :: es) [] pos) (tCB r t) := by
  intro pins s σ H Q I h
  refine wpAny_Call_Name_kw (ld_blt I hg hm hv ?_ hn hdb)
  exact PyProof.Rows.callWith_builtin1 (thn (ha pos pins s σ H _ I h) fun us s1 ⟨vs, H1, I1, r1, q1⟩ => hc pins s1 σ H1 vs us Q I1 r1 q1) he hpl
theorem pe_callTy (hc : CallR X (.type T) r) (hg : Gl X x) (hm : X.mg x = none) (hv : bootBuiltins x = some (.type T)) (ha : PA X (e :: es) t) (hn : x ≠ "__name__" := by decide) (hdb : (x == ("__debug__" : Str)) = false := by decide)
    (he : starEach (e :: es) X.env = (false, eval e X.env) :: starEach es X.env := by rfl) (hpl : (backTo pos (starEach es X.env)).any (·.1) = false := by rfl) : PE X (.Call (.Name x p) (e :: es) [] pos) (tCB r t) := by
  intro pins s σ H Q I h
  refine wpAny_Call_Name_kw (ld_blt I hg hm hv ?_ hn hdb)
  exact PyProof.Rows.callWith_type1 (thn (ha pos pins s σ H _ I h) fun us s1 ⟨vs, H1, I1, r1, q1⟩ => hc pins s1 σ H1 vs us Q I1 r1 q1) he hpl
end
end L2
namespace HT
open PySem PyProof.Rows
section
open PySem.SeqAt
open PySem.AutoSeq1 (wpAny_loadPart')
open PySem.MeetsSeq PySem.MeetsSeq2 PySem.MeetsSeq3
end
section
variable {prog : Program} {w : World} {A : Around} {E : Value → Shared → Prop} {s : Shared}
def sIx (n d : Nat) : Option Int → Nat
  | none => d
  | some v => if v < 0 then (v + (n : Int)).toNat else min v.toNat n
theorem sIx_none (n d : Nat) : sIx n d none = d := rfl
theorem sIx_nat (n d k : Nat) : sIx n d (some (k : Int)) = min k n := by
  show (if (k : Int) < 0 then ((k : Int) + (n : Int)).toNat else min (k : Int).toNat n) = min k n
  rw [if_neg (by omega), Int.toNat_natCast]
theorem sIx_le (n d : Nat) (hd : d ≤ n) (o : Option Int) : sIx n d o ≤ n := by
  cases o with
  | none => exact hd
  | some v =>
    show (if v < 0 then (v + (n : Int)).toNat else min v.toNat n) ≤ n
    by_cases hv : v < 0
    · rw [if_pos hv]; omega
    · rw [if_neg hv]; exact Nat.min_le_right _ _
theorem clip_eq (v : Int) (n d : Nat) : (if v < 0 then max (v + (n : Int)) 0 else min v (n : Int)) = ((sIx n d (some v) : Nat) : Int) := by
  show (if v < 0 then max (v + (n : Int)) 0 else min v (n : Int)) = (((if v < 0 then (v + (n : Int)).toNat else min v.toNat n) : Nat) : Int)
  by_cases hv : v < 0
  · simp only [if_pos hv]; omega
  · simp only [if_neg hv]; omega
theorem adjust_gen (lo hi : Option Int) (n : Nat) : Builtin.Slice.sliceAdjust lo hi 1 (n : Int) = (((sIx n 0 lo : Nat) : Int), ((sIx n n hi : Nat) : Int)) := by
  have h1 : ¬ ((1 : Int) < 0) := by omega
  unfold Builtin.Slice.sliceAdjust
  simp only [h1, if_false]
  refine Prod.ext ?_ ?_
  · cases lo with
    | none => rfl
    | some v => exact clip_eq v n 0
  · cases hi with
    | none => rfl
    | some v => exact clip_eq v n n
theorem places_gen (i j : Nat) : Builtin.Slice.slicePlaces (i : Int) (j : Int) 1 = j - i := by
  unfold Builtin.Slice.slicePlaces
  have h1 : (1 : Int) > 0 := by omega
  simp only [h1, if_true, Int.ediv_one]
  split <;> omega
theorem slicePart_ {v : Value} {o : Option Int} {Q : Option Int → Shared → Prop} (p : IsPart v o) (h : Q o s) : wpAny (model prog w) A (Builtin.Slice.slicePartIndex v) Q E s := by
  cases p with
  | none => exact slicePart_none h
  | int i t => exact slicePart_int h
theorem sliceApplied_gen {sl : Addr} {vl vu : Value} {lo hi : Option Int} {n : Nat} {Q : Int × Int × Nat → Shared → Prop} (hs : s.heap.IsSliceOf sl vl vu .none) (pl : IsPart vl lo) (pu : IsPart vu hi)
    (h : Q (((sIx n 0 lo : Nat) : Int), 1, sIx n n hi - sIx n 0 lo) s) : wpAny (model prog w) A (Builtin.Slice.sliceApplied (.ref sl) (pure (n : Int))) Q E s := by
  obtain ⟨os, hos, hcs, hds⟩ := id hs
  unfold Builtin.Slice.sliceApplied Builtin.Slice.sliceFields
  refine wpAny_bind (wpAny_bind (wpAny_field hos hds (x := vl) rfl (wpAny_bind (wpAny_field hos hds (x := vu) rfl (wpAny_bind (wpAny_field hos hds (x := .none) rfl (wpAny_pure ?_)))))))
  refine wpAny_bind (slicePart_none ?_)
  show wpAny _ _ (if ((1 : Int) == 0) = true then _ else _) _ _ s
  rw [if_neg (by decide)]
  refine wpAny_bind (slicePart_ pl (wpAny_bind (slicePart_ pu (wpAny_bind (wpAny_pure ?_)))))
  show wpAny _ _ (match Builtin.Slice.sliceAdjust lo hi 1 (n : Int) with | (lo, hi) => pure (lo, (1 : Int), Builtin.Slice.slicePlaces lo hi 1)) _ _ s
  rw [adjust_gen lo hi n]
  show wpAny _ _ (pure (((sIx n 0 lo : Nat) : Int), (1 : Int), Builtin.Slice.slicePlaces ((sIx n 0 lo : Nat) : Int) ((sIx n n hi : Nat) : Int) 1)) _ _ s
  rw [places_gen]
  exact wpAny_pure h
theorem pick_gen (xs : Array Value) (i k : Nat) : ((List.range k).filterMap fun (m : Nat) => xs[((i : Int) + (m : Int) * 1).toNat]?).toArray = ((xs.toList.drop i).take k).toArray := by
  have e : (fun (m : Nat) => xs[((i : Int) + (m : Int) * 1).toNat]?) = fun m => xs[i + m]? := by
    funext m
    have : ((i : Int) + (m : Int) * 1).toNat = i + m := by omega
    rw [this]
  rw [e]
  have := pick_run xs i k
  rw [List.filterMap_map] at this
  have e2 : ((fun x => xs[x]?) ∘ fun x => i + x) = fun m => xs[i + m]? := rfl
  rw [e2] at this
  rw [this]
theorem getItem_tuple_cut {t sl : Addr} {items : Array Value} {vl vu : Value} {lo hi : Option Int} {Q : Value → Shared → Prop} (ht : IsTup s.heap t items) (hs : s.heap.IsSliceOf sl vl vu .none) (pl : IsPart vl lo) (pu : IsPart vu hi)
    (hw : ¬ (sIx items.size 0 lo = 0 ∧ sIx items.size items.size hi = items.size))
    (h : Q (.ref s.heap.objs.size) { s with heap := s.heap.push { cls := .type "tuple", data := .seq ((items.toList.drop (sIx items.size 0 lo)).take (sIx items.size items.size hi - sIx items.size 0 lo)).toArray } })
    (hsz : items.size ≤ sizeLine) : wpAny (model prog w) A (getItem (.ref t) (.ref sl)) Q E s := by
  have htake : sizeOk (.seq ((items.toList.drop (sIx items.size 0 lo)).take (sIx items.size items.size hi - sIx items.size 0 lo)).toArray) := by
    show ((items.toList.drop (sIx items.size 0 lo)).take (sIx items.size items.size hi - sIx items.size 0 lo)).toArray.size ≤ sizeLine
    rw [List.size_toArray, List.length_take, List.length_drop, Array.length_toList]
    omega
  have hj : sIx items.size items.size hi ≤ items.size := sIx_le _ _ (Nat.le_refl _) hi
  obtain ⟨os, hos, hcs, hds⟩ := id hs
  have hTs : s.TypeIs (.ref sl) "slice" := ⟨os, hos, hcs⟩
  unfold getItem
  try with_reducible refine wpAny_holding ?_
  first | refine wpAny_bind (wpAny_pure ?_) | skip
  refine wpAny_bind (wpAny_sequenceKey ht.typeIs (by decide) ?_)
  refine wpAny_bind (wpAny_callSpecial?_slot (name := Str.ofString "__getitem__") ht.typeIs PyProof.Rows.slot_tuple_getitem
    (wpAny_call_entry PyProof.Rows.slot_tuple_getitem ht.typeIs entry_tuple_getitem ?_ (args_tuple_getitem _ _)))
  show wpAny _ _ (Builtin.Tuple.tupleItemsOf (.ref t) >>= _) _ _ s
  refine wpAny_bind (tupleItemsOf_ ht ?_)
  refine wpAny_bind (wpAny_typeOf hTs ?_)
  rw [if_pos (by decide)]
  refine wpAny_bind (sliceApplied_gen hs pl pu ?_)
  have hno : ¬ ((((sIx items.size 0 lo : Nat) : Int) == 0 && (1 : Int) == 1 && (sIx items.size items.size hi - sIx items.size 0 lo) == items.size) = true) := by
    intro q
    rw [Bool.and_eq_true, Bool.and_eq_true] at q
    have q1 : ((sIx items.size 0 lo : Nat) : Int) = 0 := eq_of_beq q.1.1
    have q2 : sIx items.size items.size hi - sIx items.size 0 lo = items.size := eq_of_beq q.2
    exact hw ⟨by omega, by omega⟩
  show wpAny _ _ (if (((sIx items.size 0 lo : Nat) : Int) == 0 && (1 : Int) == 1 && (sIx items.size items.size hi - sIx items.size 0 lo) == items.size) = true then _ else _) _ _ s
  rw [if_neg hno, pick_gen]
  first
    | exact wpAny_bind (m := Builtin.Tuple.tupleExact _) (wpAny_newObj_type (wpAny_pure ⟨_, rfl, wpAny_pure h⟩) htake)
    | exact wpAny_bind (m := Builtin.Tuple.tupleExact _) (wpAny_newObj_type (wpAny_bind (wpAny_pure (wpAny_pure ⟨_, rfl, wpAny_pure h⟩))) htake)
    | exact wpAny_bind (wpAny_bind (m := Builtin.Tuple.tupleExact _) (wpAny_newObj_type (wpAny_pure (wpAny_pure ⟨_, rfl, wpAny_pure h⟩)) htake))
    | exact wpAny_bind (wpAny_bind (m := Builtin.Tuple.tupleExact _) (wpAny_newObj_type (wpAny_pure ⟨_, rfl, wpAny_pure h⟩) htake))
end
end HT
namespace L2
open PySem PySem.Spec PyProof.Rows
abbrev TO := St → Hp → (Option Int → Hp → Prop) → Prop
def PO (X : Cx) (e : Option Expr) (t : TO) : Prop :=
  ∀ (pins : List (Addr × Obj)) (s : Shared) (σ : St) (H : Hp) (Q : Option Int → Hp → Prop), Inv X pins σ H s → t σ H Q →
    wpAny (model X.prog X.w) X.A (evalPart e X.env) (fun u s' => ∃ o H', Inv X pins σ H' s' ∧ IsPart u o ∧ Q o H') X.xe s
def tNoPart : TO := fun _ H Q => Q none H
def tPart (t : TE) : TO := fun σ H Q => t σ H fun x H1 => ∃ i, x = .int i ∧ Q (some i) H1
section
variable {X : Cx} {e : Expr} {te : TE} {lo hi : Option Expr} {tl th : TO} {pos p2 : Pos}
theorem po_none : PO X none tNoPart := by
  intro pins s σ H Q I h
  rw [evalPart_none]
  exact wpAny_pure ⟨none, H, I, .none, h⟩
theorem po_some (h : PE X e te) : PO X (some e) (tPart te) := by
  intro pins s σ H Q I hw
  rw [evalPart_some]
  refine thn (h pins s σ H _ I hw) fun u s1 ⟨x, H1, I1, r1, q1⟩ => ?_
  obtain ⟨i, rfl, q⟩ := q1
  obtain ⟨t, rfl⟩ := r1
  exact ⟨some i, H1, I1, .int i t, q⟩
def SlR (X : Cx) (r : V → Option Int → Option Int → Hp → VK → Prop) : Prop :=
  ∀ (pins : List (Addr × Obj)) (s : Shared) (σ : St) (H : Hp) (x : V) (v vl vu : Value) (lo hi : Option Int) (sl : Addr) (Q : VK), Inv X pins σ H s → RelV x v → s.heap.IsSliceOf sl vl vu .none → IsPart vl lo → IsPart vu hi → r x lo hi H Q →
    ∃ T id, typeLookup (.type T) "__getitem__" = pure (some (.builtin id)) ∧ s.TypeIs v T ∧ wpAny (model X.prog X.w) X.A (getItem v (.ref sl)) (EP X pins σ Q) X.xe s
def tSl (r : V → Option Int → Option Int → Hp → VK → Prop) (te : TE) (tl th : TO) : TE := fun σ H Q => te σ H fun x H1 => tl σ H1 fun l H2 => th σ H2 fun u H3 => r x l u H3 Q
theorem pe_slice {r : V → Option Int → Option Int → Hp → VK → Prop} (hr : SlR X r) (he : PE X e te) (hl : PO X lo tl) (hu : PO X hi th) : PE X (.Subscript e (.Slice lo hi none p2) pos) (tSl r te tl th) := by
  intro pins s σ H Q I h
  refine Subscript_ (thn (he pins s σ H _ I h) fun v s1 ⟨x, H1, I1, r1, q1⟩ => ?_)
  refine wpAny_Slice (thn (hl pins s1 σ H1 _ I1 q1) fun vl s2 ⟨l, H2, I2, pl, q2⟩ => thn (hu pins s2 σ H2 _ I2 q2) fun vu s3 ⟨u, H3, I3, pu, q3⟩ => ?_)
  rw [evalPart_none]
  refine wpAny_pure ?_
  have I4 : Inv X pins σ H3 { s3 with heap := s3.heap.push { cls := .type "slice", data := .fields #[vl, vu, .none] } } := I3.kept (t' := s3.toks) fun b ob q => Heap.get?_push_of_some _ q
  obtain ⟨T, id, hT, ht, hg⟩ := hr pins { s3 with heap := s3.heap.push { cls := .type "slice", data := .fields #[vl, vu, .none] } } σ H3 x v vl vu l u s3.heap.objs.size Q I4 r1 (Heap.IsSliceOf.new ..) pl pu q3
  show wpAny (model X.prog X.w) X.A (subscriptTail e (.Slice lo hi none p2) v (.ref s3.heap.objs.size)) (EP X pins σ Q) X.xe { s3 with heap := s3.heap.push { cls := .type "slice", data := .fields #[vl, vu, .none] } }
  exact tail_any (ops := [.ref s3.heap.objs.size, v]) ht hT hg (by with_unfolding_all rfl)
def cutV (xs : List V) (lo hi : Option Int) : List V := (xs.drop (HT.sIx xs.length 0 lo)).take (HT.sIx xs.length xs.length hi - HT.sIx xs.length 0 lo)
theorem cutV_length (xs : List V) (lo hi : Option Int) : (cutV xs lo hi).length ≤ xs.length := by
  unfold cutV
  rw [List.length_take, List.length_drop]
  omega
def rSlT (K : PySem.W.Frag) : V → Option Int → Option Int → Hp → VK → Prop := fun x lo hi H Q => ∃ a xs, x = .ref a ∧ SqT K H a xs ∧
  ¬ (HT.sIx xs.length 0 lo = 0 ∧ HT.sIx xs.length xs.length hi = xs.length) ∧ ∀ p, H p = none → Q (.ref p) (upd H p (.tup (cutV xs lo hi)))
theorem sl_tup : SlR X (rSlT X.K) := by
  intro pins s σ H x v vl vu lo hi sl Q I rx hs pl pu h
  obtain ⟨a, xs, rfl, hx, hw, q⟩ := h
  cases rx
  obtain ⟨its, r, ht, hz⟩ := I.tuple hx
  have hlen : its.toArray.size = xs.length := by rw [List.size_toArray]; exact r.length.symm
  refine ⟨"tuple", _, PyProof.Rows.slot_tuple_getitem.lookup, ht.typeIs, ?_⟩
  refine HT.getItem_tuple_cut ht hs pl pu (by rw [hlen]; exact hw) ?_ (by rw [hlen]; exact hz)
  rw [hlen]
  refine ⟨.ref s.heap.objs.size, _, I.laid (t' := s.toks) (o := .tup (cutV xs lo hi)) (fun b ob q => Heap.get?_push_of_some _ q) (Nat.le_refl _) ?_, rfl, q _ (I.hok.fresh (Nat.le_refl _))⟩
  exact ⟨Nat.le_trans (cutV_length xs lo hi) hz, _, (r.drop (HT.sIx xs.length 0 lo)).take (HT.sIx xs.length xs.length hi - HT.sIx xs.length 0 lo), IsTup.new _ _⟩
end
end L2
namespace L2
open PySem PySem.Spec PyProof.Rows
def ixN (n : Nat) (i : Int) : Option Nat := if 0 ≤ i then (if i < n then some i.toNat else none) else if -(n : Int) ≤ i then some (i + n).toNat else none
def atI {α : Type} (xs : List α) (i : Int) : Option α := (ixN xs.length i).bind fun j => xs[j]?
theorem ixN_seq {n : Nat} {i : Int} {j : Nat} (h : ixN n i = some j) : seqIndex? i n = some j ∧ j < n ∧ -(n : Int) ≤ i ∧ i < n := by
  unfold ixN at h
  by_cases h0 : 0 ≤ i
  · rw [if_pos h0] at h
    by_cases h1 : i < n
    · rw [if_pos h1] at h
      have e : i.toNat = j := Option.some.inj h
      exact ⟨by rw [seqIndex_of h0 h1, e], by omega, by omega, h1⟩
    · rw [if_neg h1] at h; cases h
  · rw [if_neg h0] at h
    by_cases h1 : -(n : Int) ≤ i
    · rw [if_pos h1] at h
      have e : (i + n).toNat = j := Option.some.inj h
      exact ⟨by rw [seqIndex_neg (by omega) h1, e], by omega, h1, by omega⟩
    · rw [if_neg h1] at h; cases h
theorem atI_get {α : Type} {xs : List α} {i : Int} {v : α} (h : atI xs i = some v) : ∃ j, seqIndex? i xs.length = some j ∧ xs[j]? = some v ∧ j < xs.length ∧ -(xs.length : Int) ≤ i ∧ i < xs.length := by
  unfold atI at h
  cases e : ixN xs.length i with
  | none => rw [e] at h; cases h
  | some j =>
    rw [e] at h
    obtain ⟨h1, h2, h3, h4⟩ := ixN_seq e
    exact ⟨j, h1, h, h2, h3, h4⟩
theorem atI_nat {α : Type} {xs : List α} {j : Nat} {v : α} (h : xs[j]? = some v) : atI xs (j : Int) = some v := by
  have hj : j < xs.length := (List.getElem?_eq_some_iff.mp h).1
  have e : ixN xs.length (j : Int) = some j := by
    unfold ixN
    rw [if_pos (by omega), if_pos (by omega)]; simp
  unfold atI; rw [e]; exact h
def PlainIx (b : Expr) : Prop := ∀ o i, subscripted b false o i = operate [o, i] (getItem o i)
def IxR (X : Cx) (r : R2) : Prop :=
  ∀ (value slice : Expr) (pins : List (Addr × Obj)) (s : Shared) (σ : St) (H : Hp) (x y : V) (v u : Value) (Q : VK), Inv X pins σ H s → RelV x v → RelV y u → r x y H Q →
    subscripted slice false v u = operate [v, u] (getItem v u) → wpAny (model X.prog X.w) X.A (subscriptTail value slice v u) (EP X pins σ Q) X.xe s
def MtR (X : Cx) (id : String) (r : V → List V → Hp → VK → Prop) : Prop :=
  ∀ (pins : List (Addr × Obj)) (s : Shared) (σ : St) (H : Hp) (x : V) (xs : List V) (v : Value) (us : List Value) (Q : VK), Inv X pins σ H s → RelV x v → Vals xs us → r x xs H Q →
    wpAny (model X.prog X.w) X.A (call (.builtin id) (v :: us)) (EP X pins σ Q) X.xe s
section
variable {X : Cx} {a b : Expr} {ta tb : TE} {pos : Pos}
theorem IxR.or {r r' : R2} (h : IxR X r) (h' : IxR X r') : IxR X (fun x y H Q => r x y H Q ∨ r' x y H Q) := by
  intro value slice pins s σ H x y v u Q I rx ry q hs
  rcases q with q | q
  · exact h value slice pins s σ H x y v u Q I rx ry q hs
  · exact h' value slice pins s σ H x y v u Q I rx ry q hs
theorem pe_ix {r : R2} (hr : IxR X r) (ha : PE X a ta) (hb : PE X b tb) (hs : PlainIx b) : PE X (.Subscript a b pos) (tOp r ta tb) := by
  intro pins s σ H Q I h
  exact Subscript_ (binT ha hb I h fun v u s2 x y H2 I2 rx ry q => hr a b pins s2 σ H2 x y v u Q I2 rx ry q (hs _ _))
def rIxL (K : PySem.W.Frag) : R2 := fun x y H Q => ∃ p xs i v, x = .ref p ∧ y = .int i ∧ SqL K H p xs ∧ atI xs i = some v ∧ Q v H
def rIxT (K : PySem.W.Frag) : R2 := fun x y H Q => ∃ p xs i v, x = .ref p ∧ y = .int i ∧ SqT K H p xs ∧ atI xs i = some v ∧ Q v H
def rIxS : R2 := fun x y H Q => ∃ z i c, x = .str z ∧ y = .int i ∧ z.length ≤ sizeLine ∧ atI z.cps.toList i = some c ∧ Q (.str ⟨#[c]⟩) H
theorem ix_list : IxR X (rIxL X.K) := by
  intro value slice pins s σ H x y v u Q I rx ry h hs
  obtain ⟨p, xs, i, z, rfl, rfl, hq, he, q⟩ := h
  cases rx
  obtain ⟨t, rfl⟩ := ry
  obtain ⟨its, r, pl, hz⟩ := I.list hq
  obtain ⟨j, h1, h2, h3, h4, h5⟩ := atI_get he
  obtain ⟨w, ew, rw'⟩ := r.get h2
  have hl := r.length
  have hn := line63
  have fin : EP X pins σ Q w s := ⟨z, H, I, rw', q⟩
  by_cases h0 : 0 ≤ i
  · have hj : i.toNat = j := by
      rw [seqIndex_of h0 h5] at h1
      exact Option.some.inj h1
    exact item_listR pl.isList h0 (by omega) (by rw [hj]; simpa using ew) fin hs
  · have hj : (i + (its.toArray.size : Int)).toNat = j := by
      rw [seqIndex_neg (by omega) h4] at h1
      rw [List.size_toArray, ← hl]
      exact Option.some.inj h1
    exact subscriptTail_builtinR (x := w) pl.isList.typeIs slot_list_getitem.lookup
      (wpAny_getItem_list_neg (Q := fun r s' => r = w ∧ EP X pins σ Q r s') pl.isList (by omega) (by rw [List.size_toArray] <;> omega) (by omega) (by rw [hj]; simpa using ew) ⟨rfl, fin⟩) hs
theorem ix_tup : IxR X (rIxT X.K) := by
  intro value slice pins s σ H x y v u Q I rx ry h hs
  obtain ⟨p, xs, i, z, rfl, rfl, hq, he, q⟩ := h
  cases rx
  obtain ⟨t, rfl⟩ := ry
  obtain ⟨its, r, pl, hz⟩ := I.tuple hq
  obtain ⟨j, h1, h2, h3, h4, h5⟩ := atI_get he
  obtain ⟨w, ew, rw'⟩ := r.get h2
  have hl := r.length
  have hn := line63
  have fin : EP X pins σ Q w s := ⟨z, H, I, rw', q⟩
  exact subscriptTail_builtinR (x := w) pl.typeIs slot_tuple_getitem.lookup
    (getItem_tuple (j := j) (Q := fun r s' => r = w ∧ EP X pins σ Q r s') pl (by omega) (by omega) (by rw [List.size_toArray, ← hl]; exact h1) (by simpa using ew) ⟨rfl, fin⟩) hs
theorem ix_str : IxR X rIxS := by
  intro value slice pins s σ H x y v u Q I rx ry h hs
  obtain ⟨z, i, c, rfl, rfl, hz, he, q⟩ := h
  obtain ⟨t, rfl⟩ := rx
  obtain ⟨t', rfl⟩ := ry
  obtain ⟨j, h1, h2, h3, h4, h5⟩ := atI_get he
  have hl : z.cps.toList.length = z.length := by simp [Str.length]
  rw [hl] at h1 h4 h5
  have hn := line63
  exact tail_any (typeIs_str s z t) slot_str_getitem.lookup (getItem_str (c := c) (by
    have e1 : decide (i < -(2 ^ 63 : Int)) = false := decide_eq_false (by omega)
    have e2 : decide (i ≥ 2 ^ 63) = false := decide_eq_false (by omega)
    rw [e1, e2, Bool.or_false]) (by rw [h1]; simpa using h2) ⟨.str ⟨#[c]⟩, H, I.tok _, ⟨_, rfl⟩, q⟩) hs
def rIx (K : PySem.W.Frag) : R2 := fun x y H Q => rIxL K x y H Q ∨ rIxT K x y H Q ∨ rIxS x y H Q
theorem ix_seq : IxR X (rIx X.K) := ix_list.or (ix_tup.or ix_str)
theorem mapSeq_set (its : List Value) (n j : Nat) (u : Value) : Obj.mapSeq (·.setIfInBounds j u) { cls := .type "list", data := .seq its.toArray n } = { cls := .type "list", data := .seq (its.set j u).toArray n } := by
  simp [Obj.mapSeq]
theorem Inv.lst {pins : List (Addr × Obj)} {σ : St} {H : Hp} {s : Shared} {p : Addr} {xs : List V} (I : Inv X pins σ H s) (h : H p = some (.lst xs)) :
    ∃ (its : List Value) (n : Nat), Vals xs its ∧ s.heap.get? p = some { cls := .type "list", data := .seq its.toArray n } ∧ xs.length ≤ sizeLine := by
  obtain ⟨z, its, n, r, e⟩ := I.hok p _ h
  exact ⟨its, n, r, e, z⟩
theorem Inv.lstUpd {pins : List (Addr × Obj)} {σ : St} {H : Hp} {s : Shared} {p : Addr} {xs ys : List V} {its its' : List Value} {n n' : Nat} {f : Obj → Obj} (I : Inv X pins σ H s) (h : H p = some (.lst xs))
    (ho : s.heap.get? p = some { cls := .type "list", data := .seq its.toArray n }) (hf : f { cls := .type "list", data := .seq its.toArray n } = { cls := .type "list", data := .seq its'.toArray n' }) (r : Vals ys its') (hz : ys.length ≤ sizeLine) (t : Nat) :
    Inv X pins σ (upd H p (.lst ys)) { s with heap := s.heap.update p f, toks := t } := by
  have e : (s.heap.update p f).get? p = some { cls := .type "list", data := .seq its'.toArray n' } := by
    rw [Heap.get?_update_self f ho (by rw [hf] <;> rfl), hf]
  refine I.write (x := p) (e := p) (by rw [h]; trivial) (.inl rfl) (fun b u hb q => (Heap.get?_update_other _ _ (Ne.symm hb)).trans q) ⟨_, e⟩ ?_
  exact ⟨hz, its', n', r, e⟩
def rSetL : V → V → V → Hp → (Hp → Prop) → Prop := fun o i v H Q => ∃ p xs k j, o = .ref p ∧ i = .int k ∧ H p = some (.lst xs) ∧ ixN xs.length k = some j ∧ Q (upd H p (.lst (xs.set j v)))
theorem set_list : PSet X rSetL := by
  intro pins s σ H o i v ov iv u Q I ro ri rv h
  obtain ⟨p, xs, k, j, rfl, rfl, hp, hj, q⟩ := h
  cases ro
  obtain ⟨t, rfl⟩ := ri
  obtain ⟨its, n, r, ho, hz⟩ := I.lst hp
  obtain ⟨h1, h2, h3, h4⟩ := ixN_seq hj
  have hl := r.length
  have hn := line63
  have I' : Inv X pins σ (upd H p (.lst (xs.set j v))) { s with heap := s.heap.update p (Obj.mapSeq (·.setIfInBounds j u)) } :=
    I.lstUpd hp ho (mapSeq_set its n j u) (r.set rv j) (by rw [List.length_set]; exact hz) s.toks
  by_cases h0 : 0 ≤ k
  · have hk : k.toNat = j := by
      rw [seqIndex_of h0 h4] at h1
      exact Option.some.inj h1
    exact PySem.W.ki_setAt ho h0 (by omega) (by rw [List.size_toArray, ← hl]; exact h4) (by rw [hk]; exact ⟨_, I', q⟩)
  · have hk : (k + (its.toArray.size : Int)).toNat = j := by
      rw [seqIndex_neg (by omega) h3] at h1
      rw [List.size_toArray, ← hl]
      exact Option.some.inj h1
    exact PySem.W.ki_setBack ho (by omega) (by rw [List.size_toArray, ← hl]; exact h3) (by omega) (by rw [hk]; exact ⟨_, I', q⟩)
theorem slice_bounds (lo hi : Option Int) (n : Nat) : (sliceBounds lo hi none n).1 = ((HT.sIx n 0 lo : Nat) : Int) ∧ (sliceBounds lo hi none n).2.1 = ((HT.sIx n n hi : Nat) : Int) ∧ (sliceBounds lo hi none n).2.2 = 1 := by
  refine ⟨?_, ?_, rfl⟩
  · cases lo with
    | none => simp [sliceBounds, HT.sIx]
    | some i =>
      simp only [sliceBounds, HT.sIx, Option.getD_none, show (1 : Int) > 0 by decide, if_true]
      by_cases h : i < 0
      · simp only [h, if_true] <;> omega
      · simp only [h, if_false] <;> omega
  · cases hi with
    | none => simp [sliceBounds, HT.sIx]
    | some i =>
      simp only [sliceBounds, HT.sIx, Option.getD_none, show (1 : Int) > 0 by decide, if_true]
      by_cases h : i < 0
      · simp only [h, if_true] <;> omega
      · simp only [h, if_false] <;> omega
theorem slicePick_cut (its : List Value) (lo hi : Option Int) : slicePick its.toArray lo hi none = ((its.drop (HT.sIx its.length 0 lo)).take (HT.sIx its.length its.length hi - HT.sIx its.length 0 lo)).toArray := by
  obtain ⟨h1, h2, h3⟩ := slice_bounds lo hi its.toArray.size
  unfold slicePick
  rw [h1, h2, h3]
  simp only [sliceRange_one, pick_run, List.size_toArray] <;> rfl
def rSlL (K : PySem.W.Frag) : V → Option Int → Option Int → Hp → VK → Prop := fun x lo hi H Q => ∃ a xs, x = .ref a ∧ SqL K H a xs ∧ ∀ p, H p = none → Q (.ref p) (upd H p (.lst (cutV xs lo hi)))
theorem sl_list : SlR X (rSlL X.K) := by
  intro pins s σ H x v vl vu lo hi sl Q I rx hs pl pu h
  obtain ⟨a, xs, rfl, hx, q⟩ := h
  cases rx
  obtain ⟨its, r, ht, hz⟩ := I.list hx
  have hlen := r.length
  refine ⟨"list", _, slot_list_getitem.lookup, ht.isList.typeIs, ?_⟩
  refine wpAny_getItem_list_slice ht.isList hs pl pu .none (by simp) ?_ (by rw [List.size_toArray] <;> omega)
  rw [slicePick_cut, ← hlen]
  refine ⟨.ref s.heap.objs.size, _, I.laid (t' := s.toks) (o := .lst (cutV xs lo hi)) (fun b ob q => Heap.get?_push_of_some _ q) (Nat.le_refl _) ?_, rfl, q _ (I.hok.fresh (Nat.le_refl _))⟩
  exact ⟨Nat.le_trans (cutV_length xs lo hi) hz, _, 0, (r.drop (HT.sIx xs.length 0 lo)).take (HT.sIx xs.length xs.length hi - HT.sIx xs.length 0 lo), Heap.get?_push_size _ rfl⟩
theorem call_len_seq : CallR X (.builtin "len") (fun xs H Q => ∃ p ys, xs = [.ref p] ∧ (SqL X.K H p ys ∨ SqT X.K H p ys) ∧ Q (.int ys.length) H) := by
  intro pins s σ H xs us Q I r h
  obtain ⟨p, ys, rfl, hq, q⟩ := h
  obtain ⟨u, rfl, rx⟩ := vals1 r
  cases rx
  have hn := line63
  rcases hq with hq | hq
  · obtain ⟨its, r', pl, hz⟩ := I.list hq
    have hlen := r'.length
    exact Calls.call_len_list pl.isList (by simp only [List.size_toArray] <;> omega) ⟨.int ys.length, H, I.tok _, ⟨s.toks + 1, by rw [List.size_toArray, hlen]⟩, q⟩
  · obtain ⟨its, r', pl, hz⟩ := I.tuple hq
    have hlen := r'.length
    exact len_tuple pl (by simp only [List.size_toArray] <;> omega) ⟨.int ys.length, H, I.tok _, ⟨s.toks + 1, by rw [List.size_toArray, hlen]⟩, q⟩
theorem call_list_of : CallR X (.type "list") (fun xs H Q => ∃ p ys, xs = [.ref p] ∧ (SqL X.K H p ys ∨ SqT X.K H p ys) ∧ ∀ l, H l = none → Q (.ref l) (upd H l (.lst ys))) := by
  intro pins s σ H xs us Q I r h
  obtain ⟨p, ys, rfl, hq, q⟩ := h
  obtain ⟨u, rfl, rx⟩ := vals1 r
  cases rx
  have fin : ∀ (its : List Value), Vals ys its → ys.length ≤ sizeLine → ∀ (h' : Heap) (c' : Nat), (∀ b o', s.heap.get? b = some o' → h'.get? b = some o') →
      h'.get? s.heap.objs.size = some { cls := .type "list", dict := none, data := .seq its.toArray c', slots := #[] } → EP X pins σ Q (.ref s.heap.objs.size) { s with heap := h' } := fun its r' hz h' c' kp e =>
    ⟨.ref s.heap.objs.size, _, I.laid (t' := s.toks) kp (Nat.le_refl _) (show ObjOk X.prog X.w _ h' _ (.lst ys) from ⟨hz, its, c', r', e⟩), rfl, q _ (I.hok.fresh (Nat.le_refl _))⟩
  rcases hq with hq | hq
  · obtain ⟨its, r', pl, hz⟩ := I.list hq
    have hlen := r'.length
    obtain ⟨o, ho, hc, n, hd⟩ := pl.isList
    exact call_list_seq p (.inl rfl) ho hc hd (fun h' c' kp e => fin its r' hz h' c' kp e) (by simp only [List.size_toArray] <;> omega)
  · obtain ⟨its, r', pl, hz⟩ := I.tuple hq
    have hlen := r'.length
    obtain ⟨o, ho, hc, n, hd⟩ := pl
    exact call_list_seq p (.inr rfl) ho hc hd (fun h' c' kp e => fin its r' hz h' c' kp e) (by simp only [List.size_toArray] <;> omega)
theorem call_tuple_of : CallR X (.type "tuple") (fun xs H Q => ∃ p ys, xs = [.ref p] ∧ ((SqL X.K H p ys ∧ ∀ l, H l = none → Q (.ref l) (upd H l (.tup ys))) ∨ (SqT X.K H p ys ∧ Q (.ref p) H))) := by
  intro pins s σ H xs us Q I r h
  obtain ⟨p, ys, rfl, h⟩ := h
  obtain ⟨u, rfl, rx⟩ := vals1 r
  cases rx
  rcases h with ⟨hq, q⟩ | ⟨hq, q⟩
  · obtain ⟨its, r', pl, hz⟩ := I.list hq
    have hlen := r'.length
    refine call_tuple_list pl.isList (fun h' kp => ?_) (by simp only [List.size_toArray] <;> omega)
    have I1 : Inv X pins σ H { s with heap := h' } := I.kept (t' := s.toks) kp
    have I2 : Inv X pins σ (upd H h'.objs.size (.tup ys)) { s with heap := h'.push { cls := .type "tuple", data := .seq its.toArray } } :=
      I1.laid (t' := s.toks) (fun b o e => Heap.get?_push_of_some _ e) (Nat.le_refl _) (show ObjOk X.prog X.w _ _ _ (.tup ys) from ⟨hz, its, r', IsTup.new _ _⟩)
    exact ⟨.ref h'.objs.size, _, I2, rfl, q _ (I1.hok.fresh (Nat.le_refl _))⟩
  · obtain ⟨its, r', pl, hz⟩ := I.tuple hq
    exact call_tuple_same pl ⟨.ref p, H, I, rfl, q⟩
def tyV (K : PySem.W.Frag) (T : String) (x : V) (H : Hp) : Prop := match x with
  | .str _ => T = "str"
  | .int _ => T = "int"
  | .ref p => (T = "list" ∧ ∃ xs, SqL K H p xs) ∨ (T = "tuple" ∧ ∃ o, K.lookup p = some o ∧ o.cls = .type "tuple" ∧ o.dict = none) ∨
      (T = "dict" ∧ ((∃ kvs, H p = some (.dK kvs)) ∨ ∃ kvs, H p = some (.dT kvs))) ∨ (T = "set" ∧ ∃ S n, H p = some (.set S n))
  | _ => False
theorem tyV_is {pins : List (Addr × Obj)} {σ : St} {H : Hp} {s : Shared} {T : String} {x : V} {v : Value} (I : Inv X pins σ H s) (r : RelV x v) (ty : tyV X.K T x H) :
    s.TypeIs v T ∧ ∀ a, v = .ref a → ∃ ob, s.heap.get? a = some ob ∧ ob.dict = none := by
  cases x with
  | str z =>
    obtain ⟨t, rfl⟩ := r
    cases (show T = "str" from ty)
    exact ⟨typeIs_str s z t, fun _ e => nomatch e⟩
  | int i =>
    obtain ⟨t, rfl⟩ := r
    cases (show T = "int" from ty)
    exact ⟨typeIs_int s i t, fun _ e => nomatch e⟩
  | ref p =>
    cases r
    rcases ty with ⟨rfl, xs, hq⟩ | ⟨rfl, o, hk, hc, hd⟩ | ⟨rfl, hk⟩ | ⟨rfl, S, n, hk⟩
    · obtain ⟨its, _, pl, _⟩ := I.list hq
      refine ⟨pl.isList.typeIs, fun a e => ?_⟩
      cases e
      obtain ⟨o, n, e, c, hd, _⟩ := pl
      exact ⟨o, e, hd⟩
    · refine ⟨⟨o, I.kIn p o hk, hc⟩, fun a e => ?_⟩
      cases e
      exact ⟨o, I.kIn _ o hk, hd⟩
    · have z : ∃ o, s.heap.get? p = some o ∧ o.ExactDict := by
        rcases hk with ⟨kvs, hk⟩ | ⟨kvs, hk⟩
        · obtain ⟨_, _, _, _, o, _, _, e, ex, _⟩ := I.hok p _ hk
          exact ⟨o, e, ex⟩
        · obtain ⟨_, _, _, _, o, _, _, e, ex, _⟩ := I.hok p _ hk
          exact ⟨o, e, ex⟩
      obtain ⟨o, e, ex⟩ := z
      refine ⟨⟨o, e, ex.1⟩, fun a e2 => ?_⟩
      cases e2
      exact ⟨o, e, ex.2.1⟩
    · obtain ⟨o, _, _, _, e, ex, _⟩ := I.hok p _ hk
      refine ⟨⟨o, e, ex.1⟩, fun a e2 => ?_⟩
      cases e2
      exact ⟨o, e, ex.2.1⟩
  | _ => exact False.elim ty
def tBM0 (K : PySem.W.Frag) (T : String) (r : V → List V → Hp → VK → Prop) (to : TE) : TE := fun σ H Q => to σ H fun x H1 => tyV K T x H1 ∧ r x [] H1 Q
def tBM (K : PySem.W.Frag) (T : String) (r : V → List V → Hp → VK → Prop) (to : TE) (t : TA) : TE := fun σ H Q => to σ H fun x H1 => tyV K T x H1 ∧ t σ H1 fun xs H2 => r x xs H2 Q
variable {o e : Expr} {es : List Expr} {to : TE} {t : TA} {name : Str} {apos cpos : Pos} {T id : String} {r : V → List V → Hp → VK → Prop}
theorem pe_bm0 (pa : PlainAttrs T) (slot : Slot T name id) (hty : typeOf (.builtin id) = pure (.type "method_descriptor")) (hm : MtR X id r) (ho : PE X o to)
    (hbase : attributeBase o name X.env (eval o X.env) = eval o X.env := by rfl) (hline : (apos.endLine == cpos.line) = true := by rfl) : PE X (.Call (.Attribute o name apos) [] [] cpos) (tBM0 X.K T r to) := by
  intro pins s σ H Q I h
  refine wpAny_Call_method0_late hbase hline (thn (ho pins s σ H _ I h) fun v s1 ⟨x, H1, I1, r1, ty, q1⟩ => ?_)
  obtain ⟨h1, h2⟩ := tyV_is I1 r1 ty
  exact ⟨T, id, pa, slot, hty, h1, h2, Calls.callWith_builtin rfl (PySem.evalArgs_none (hm pins s1 σ H1 x [] v [] Q I1 r1 .nil q1))⟩
theorem pe_bm (pa : PlainAttrs T) (slot : Slot T name id) (hty : typeOf (.builtin id) = pure (.type "method_descriptor")) (hm : MtR X id r) (ho : PE X o to) (ha : PA X (e :: es) t)
    (hbase : attributeBase o name X.env (eval o X.env) = eval o X.env := by rfl)
    (hfew : ((backTo cpos (starEach (e :: es) X.env)).all (fun x => !x.1) && (backToKw cpos (keywordEach [] X.env)).all (fun x => x.1.isSome)
      && decide ((e :: es).length + ([] : List Keyword).length + (if ([] : List Keyword).isEmpty then 0 else 1) < 30)) = true := by rfl)
    (hline : (apos.endLine == cpos.line) = true := by rfl) (hs : starEach (e :: es) X.env = (false, eval e X.env) :: starEach es X.env := by rfl) (hplain : (backTo cpos (starEach es X.env)).any (·.1) = false := by rfl) :
    PE X (.Call (.Attribute o name apos) (e :: es) [] cpos) (tBM X.K T r to t) := by
  intro pins s σ H Q I h
  refine wpAny_Call_method_late hbase hfew hline rfl (thn (ho pins s σ H _ I h) fun v s1 ⟨x, H1, I1, r1, ty, q1⟩ => ?_)
  obtain ⟨h1, h2⟩ := tyV_is I1 r1 ty
  refine ⟨T, id, pa, slot, hty, h1, h2, ?_⟩
  have hA := ha cpos pins s1 σ H1 _ I1 q1
  rw [hs] at hA ⊢
  refine Calls.callWith_builtin (by show (false || (backTo cpos (starEach es X.env)).any (·.1)) = false; rw [hplain] <;> rfl) (Calls.evalArgs_plain ?_)
  exact thn hA fun us s2 ⟨vs, H2, I2, r2, q2⟩ => hm pins s2 σ H2 x vs v us Q I2 r1 r2 q2
end
end L2
namespace L2
open PySem PySem.Spec PyProof.Rows
def MtM (X : Cx) (id : String) (r : V → List V → Hp → VK → Prop) : Prop :=
  ∀ (pins : List (Addr × Obj)) (s : Shared) (σ : St) (H : Hp) (x : V) (xs : List V) (v : Value) (us : List Value) (Q : VK), Inv X pins σ H s → RelV x v → Vals xs us → r x xs H Q →
    wpAny (model X.prog X.w) X.A (call (.builtin id) (v :: us)) (EP X pins σ Q) X.xe s
theorem Vals.one : ∀ {x : V} {us : List Value}, Vals [x] us → ∃ u, us = [u] ∧ RelV x u
  | _, _, .cons r .nil => ⟨_, rfl, r⟩
theorem Vals.zero : ∀ {us : List Value}, Vals [] us → us = []
  | _, .nil => rfl
theorem Vals.dropLast {xs : List V} {us : List Value} (h : Vals xs us) : Vals xs.dropLast us.dropLast := by
  induction h with
  | nil => exact .nil
  | cons r t ih =>
    cases t with
    | nil => exact .nil
    | cons q t' => exact .cons r ih
theorem Vals.rep {xs : List V} {us : List Value} (h : Vals xs us) : ∀ k : Nat, Vals (List.replicate k xs).flatten (List.replicate k us).flatten
  | 0 => .nil
  | k + 1 => by
    rw [List.replicate_succ, List.replicate_succ, List.flatten_cons, List.flatten_cons]
    exact Vals.append h (Vals.rep h k)
theorem erase_last {α : Type} (l : List α) : l.eraseIdx (l.length - 1) = l.dropLast := by
  induction l with
  | nil => rfl
  | cons a r ih =>
    cases r with
    | nil => rfl
    | cons b r =>
      have e : (a :: b :: r).length - 1 = ((b :: r).length - 1) + 1 := by
        have h1 : (a :: b :: r).length = r.length + 2 := rfl
        have h2 : (b :: r).length = r.length + 1 := rfl
        omega
      rw [e, List.eraseIdx_cons_succ, ih]
      all_goals rfl
theorem foldl_rep (its : List Value) : ∀ (k : Nat) (acc : List Value),
    List.foldl (fun x1 x2 => x1 ++ x2) acc.toArray (List.replicate k its.toArray) = (acc ++ (List.replicate k its).flatten).toArray
  | 0, acc => by simp
  | k + 1, acc => by
    have e : acc.toArray ++ its.toArray = (acc ++ its).toArray := by simp
    have e2 : (acc ++ its) ++ (List.replicate k its).flatten = acc ++ (List.replicate (k + 1) its).flatten := by
      rw [List.replicate_succ, List.flatten_cons, List.append_assoc]
    rw [← e2, ← foldl_rep its k (acc ++ its), ← e, List.replicate_succ, List.foldl_cons]
section
variable {X : Cx} {pins : List (Addr × Obj)} {σ : St} {H : Hp} {s : Shared} {l b : Addr} {xs ys zs : List V}
theorem Inv.lset {its its' : List Value} {n : Nat} {f : Array Value → Array Value} {t' : Nat} (I : Inv X pins σ H s) (hH : H l = some (.lst xs))
    (e : s.heap.get? l = some { cls := .type "list", data := .seq its.toArray n }) (hf : f its.toArray = its'.toArray) (hv : Vals ys its') (hz : ys.length ≤ sizeLine) :
    Inv X pins σ (upd H l (.lst ys)) { s with heap := s.heap.update l (Obj.mapSeq f), toks := t' } := by
  have q := PySem.IsL.update e f
  rw [hf] at q
  refine I.write (x := l) (e := l) (by rw [hH]; exact trivial) (.inl rfl) (fun b' u hb hu => (Heap.get?_update_other s.heap (Obj.mapSeq f) (Ne.symm hb)).trans hu) ⟨_, q⟩ ?_
  exact ⟨hz, its', _, hv, q⟩
theorem Inv.lnew {its : List Value} {t' : Nat} (I : Inv X pins σ H s) (hv : Vals ys its) (hz : ys.length ≤ sizeLine) :
    Inv X pins σ (upd H s.heap.objs.size (.lst ys)) { s with heap := s.heap.push { cls := .type "list", data := .seq its.toArray }, toks := t' } :=
  I.laid (fun _ _ q => Heap.get?_push_of_some _ q) (Nat.le_refl _) ⟨hz, its, 0, hv, Heap.get?_push_size _ rfl⟩
theorem Inv.fresh (I : Inv X pins σ H s) : H s.heap.objs.size = none := I.hok.fresh (Nat.le_refl _)
theorem Inv.lstM (I : Inv X pins σ H s) (hH : H l = some (.lst xs)) : xs.length ≤ sizeLine ∧ ∃ (its : List Value) (n : Nat), Vals xs its ∧ xs.length = its.length ∧ s.heap.get? l = some { cls := .type "list", data := .seq its.toArray n } := by
  obtain ⟨z, its, n, r, e⟩ := I.hok l _ hH
  exact ⟨z, its, n, r, r.length, e⟩
theorem notLongL {n : Nat} (h : n ≤ sizeLine) : Builtin.List.listTooLong n = false := by
  unfold Builtin.List.listTooLong
  exact decide_eq_false (by omega)
end
section
variable {X : Cx}
def rAppend : V → List V → Hp → VK → Prop := fun x vs H Q => ∃ l xs y, x = .ref l ∧ vs = [y] ∧ H l = some (.lst xs) ∧ xs.length < sizeLine ∧ Q .non (upd H l (.lst (xs ++ [y])))
theorem mt_append : MtM X "list.append" rAppend := by
  intro pins s σ H x vs v us Q I rx rv h
  obtain ⟨l, xs, y, rfl, rfl, hH, hz, q⟩ := h
  cases rx
  obtain ⟨u, rfl, ru⟩ := rv.one
  obtain ⟨z, its, n, r, hl, e⟩ := I.lstM hH
  refine call_meets F.slot_list_append ⟨_, e, rfl⟩ F.entry_list_append (F.args_list_append_2 _ _) (PySem.list_append l its.toArray n u (by rw [List.size_toArray]; omega)) ⟨e, ?_⟩
  refine ⟨.non, _, I.lset (its' := its ++ [u]) hH e (by simp) (r.append (.cons ru .nil)) ?_, rfl, q⟩
  rw [List.length_append, List.length_singleton]
  omega
def rPop : V → List V → Hp → VK → Prop := fun x vs H Q => ∃ l xs y, x = .ref l ∧ vs = [] ∧ H l = some (.lst xs) ∧ xs[xs.length - 1]? = some y ∧ Q y (upd H l (.lst xs.dropLast))
theorem mt_pop : MtM X "list.pop" rPop := by
  intro pins s σ H x vs v us Q I rx rv h
  obtain ⟨l, xs, y, rfl, rfl, hH, hy, q⟩ := h
  cases rx
  have hus := rv.zero
  subst hus
  obtain ⟨z, its, n, r, hl, e⟩ := I.lstM hH
  obtain ⟨u, hu, ru⟩ := r.get hy
  have hy' : its.toArray[its.toArray.size - 1]? = some u := by
    show its.toArray[its.length - 1]? = some u
    rw [← Array.getElem?_toList, ← hl]
    exact hu
  refine call_meets F.slot_list_pop ⟨_, e, rfl⟩ F.entry_list_pop (F.args_list_pop_1 _) (MeetsSeq.list_pop_last l its.toArray n u hy' (by rw [List.size_toArray]; omega)) ⟨e, ?_⟩
  refine ⟨y, _, I.lset (its' := its.dropLast) hH e ?_ r.dropLast ?_, ru, q⟩
  · show its.toArray.eraseIdxIfInBounds (its.toArray.size - 1) = its.dropLast.toArray
    rw [List.size_toArray, List.eraseIdxIfInBounds_toArray, erase_last]
  · rw [List.length_dropLast]
    omega
def rCat : R2 := fun x y H Q => ∃ l b xs zs, x = .ref l ∧ y = .ref b ∧ H l = some (.lst xs) ∧ H b = some (.lst zs) ∧ xs.length + zs.length ≤ sizeLine ∧ ∀ p, H p = none → Q (.ref p) (upd H p (.lst (xs ++ zs)))
theorem op_cat : OpR X (binaryOp .Add) rCat := by
  intro pins s σ H x y v u Q I rx ry h
  obtain ⟨l, b, xs, zs, rfl, rfl, hH, hB, hz, q⟩ := h
  cases rx
  cases ry
  obtain ⟨z, its, n, r, hl, e⟩ := I.lstM hH
  obtain ⟨z2, its2, n2, r2, hl2, e2⟩ := I.lstM hB
  refine PySem.P.add_list e e2 ?_ (by rw [List.size_toArray, List.size_toArray]; omega)
  have ea : its.toArray ++ its2.toArray = (its ++ its2).toArray := by simp
  rw [ea]
  exact ⟨.ref _, _, I.lnew (t' := s.toks) (r.append r2) (by rw [List.length_append]; omega), rfl, q _ I.fresh⟩
def rRep : R2 := fun x y H Q => ∃ l k xs, x = .ref l ∧ y = .int k ∧ H l = some (.lst xs) ∧ -(2 ^ 63) ≤ k ∧ k < 2 ^ 63 ∧ xs.length * k.toNat ≤ sizeLine ∧
  ∀ p, H p = none → Q (.ref p) (upd H p (.lst (List.replicate k.toNat xs).flatten))
theorem len_rep {α : Type} (xs : List α) (k : Nat) : (List.replicate k xs).flatten.length = k * xs.length := by
  induction k with
  | zero => simp
  | succ k ih => rw [List.replicate_succ, List.flatten_cons, List.length_append, ih, Nat.succ_mul, Nat.add_comm]
theorem op_rep : OpR X (binaryOp .Mult) rRep := by
  intro pins s σ H x y v u Q I rx ry h
  obtain ⟨l, k, xs, rfl, rfl, hH, h1, h2, hz, q⟩ := h
  cases rx
  obtain ⟨t, rfl⟩ := ry
  obtain ⟨z, its, n, r, hl, e⟩ := I.lstM hH
  have hlen : its.toArray.size * k.toNat ≤ sizeLine := by rw [List.size_toArray, ← hl]; exact hz
  have hcap : ¬ its.toArray.size * k.toNat > (2 ^ 63 - 1) / 8 := by
    have : (sizeLine : Nat) ≤ (2 ^ 63 - 1) / 8 := by decide
    omega
  have hfit : ¬ (!Builtin.List.listFitsIndex k) = true := by
    rw [fitsIndex_both h1 h2]
    exact Bool.false_ne_true
  have hlong : ¬ Builtin.List.listTooLong (its.toArray.size * k.toNat) = true := by
    rw [notLongL hlen]
    exact Bool.false_ne_true
  have hnew : List.foldl (fun x1 x2 => x1 ++ x2) #[] (List.replicate (if its.toArray.isEmpty = true then 0 else k.toNat) its.toArray) = (List.replicate k.toNat its).flatten.toArray := by
    have f0 : ∀ m : Nat, List.foldl (fun x1 x2 => x1 ++ x2) #[] (List.replicate m its.toArray) = (List.replicate m its).flatten.toArray := fun m => by
      have := foldl_rep its m []
      rw [List.nil_append] at this
      exact this
    rw [f0]
    cases its with
    | nil => simp
    | cons a r' => rw [if_neg (by simp)]
  refine wpAny_binaryOp_repeat_ref (T := "list") (U := "int") (by decide) ⟨_, e, rfl⟩ (fun s' => typeIs_int s' k t) noFill_list_mul F.fills_int_mul F.slot_int_rmul repeat_list F.slot_int_index.lookup
    (call_meets F.slot_int_rmul (typeIs_int s k t) F.entry_int_rmul (F.args_int_rmul_2 _ _) (int___rmul___int_list k t l its.toArray n)
      ⟨e, rfl, ⟨_, e, rfl⟩, call_meets F.slot_list_mul ⟨_, e, rfl⟩ F.entry_list_mul (F.args_list_mul_2 _ _) (AutoListH.list___mul___list_int_3 l its.toArray n k t hfit hcap hlong) ⟨e, ?_⟩⟩)
  rw [hnew]
  exact ⟨.ref _, _, I.lnew (t' := s.toks) (r.rep k.toNat) (by rw [len_rep, Nat.mul_comm]; exact hz), rfl, q _ I.fresh⟩
end
section
variable {prog : Program} {w : World} {A : Around} {E : Value → Shared → Prop} {s : Shared}
end
section
variable {X : Cx}
end
end L2
namespace Att
open PySem PySem.W PySem.Calls PyProof.Rows
theorem ints_of_wellAll {P : Params} {h : Heap} : ∀ (ns : List Int) (vs : List Value), WellAll P h vs (ns.map WData.int) → IntsAre vs ns := by
  intro ns
  induction ns with
  | nil =>
    intro vs w
    rw [List.map_nil] at w
    cases w
    exact .nil
  | cons n ns ih =>
    intro vs w
    rw [List.map_cons] at w
    cases w with
    | cons a b =>
      cases a
      exact .cons _ _ (ih _ b)
theorem script_of {l : OpenLaw} {n : Nat} (hn : l.most = some n) {P : Params} {h : Heap} {args : List WData} {vals : List Value}
    (hpre : l.row.toRowW.claim.pre args = true) (hwl : WellAll P h vals args) :
    ∃ a vs ns, vals = [Value.ref a] ∧ args = [WData.list (ns.map WData.int)] ∧ h.get? a = some { cls := .type "list", data := .seq vs.toArray } ∧ IntsAre vs ns ∧ ns.length ≤ n := by
  have hsh : WShape.hasAll [] args [.list .int] = true := (pre_splitW hpre).1
  have hc : l.pre.holds [] { args := args } = true := (pre_splitW hpre).2
  obtain ⟨d, r, rfl, h1, h2⟩ := hasAllW_cons hsh
  obtain rfl := hasAllW_nil h2
  obtain ⟨xs, rfl, h3⟩ := hasW_list h1
  obtain ⟨ns, rfl⟩ := items_int h3
  have hlen : ns.length ≤ n := by
    unfold OpenLaw.pre at hc
    have h4 : (WTm.not (.lt (.lit (.int (n : Int))) (.len (.arg 0)))).holds [] { args := [.list (ns.map .int)] } = true := by
      have h4 := (holds_andW hc).1
      rw [hn] at h4
      exact h4
    have h5 := condW_of h4 (w_not (w_lt w_lit (w_len_list (w_arg rfl))))
    rw [List.length_map] at h5
    refine Nat.le_of_not_lt fun q => ?_
    have q' : (n : Int) < ((ns.length : Nat) : Int) := by omega
    first
      | (rw [decide_eq_true q'] at h5; exact absurd h5 (by decide))
      | (simp at h5; omega)
  cases hwl with
  | cons w1 w2 =>
    cases w2
    cases w1 with
    | list ho hall => exact ⟨_, _, ns, rfl, rfl, ho, ints_of_wellAll ns _ hall, hlen⟩
theorem post_true (l : OpenLaw) (args : List WData) : l.row.toRowW.claim.post args (.bool true) args = true :=
  postW_of (r := l.row.toRowW) (X := (true == true))
    (show WShape.has [] (.bool true) .bool = true by first | rfl | decide | simp [WShape.has, WShape.arms, WShape.armsAll])
    (show (WTm.eq .res (.lit (.bool true))).value [] { args := args, res := some (.bool true), after := args } = some (.bool (true == true)) from w_eq_bool (w_res rfl) w_lit) rfl
theorem attach_call {l : OpenLaw} {n : Nat} {q : Program} {loose : List Str} {XP : (Str → Option Value) → Heap → Prop} {YP : World → Heap → Prop} {d : DefRec}
    (hn : l.most = some n) (hdf : d.params.defaults = [])
    (call : ∀ (w : World) (s₀ s₁ : Shared) (mg mb : Str → Option Value) (fa : Addr) (o : Obj) (pm cd doc : Value) (a : Addr) (vs : List Value) (ns : List Int),
      Ground q loose [] XP w s₀ mg mb s₁.heap → YP w s₁.heap →
      s₁.heap.get? fa = some o → o.data = .func (docDef d.name d.params d.body d.scope pm cd doc) → s₁.heap.CodeRec cd d.name → mg d.name = some (.ref fa) →
      s₁.heap.get? a = some { cls := .type "list", data := .seq vs.toArray } → IntsAre vs ns → ns.length ≤ n → s₁.gens = #[] →
      codeAny (model l.prog w) callerA (.call (.ref fa) ⟨[.ref a], []⟩) (fun r s' => r = .ok (.ret (.bool true)) ∧ OldK s₁.heap s'.heap ∧ s'.os = s₁.os ∧ AllBare s'.gens) s₁) :
    WalkO q loose XP YP l.row.toRowW d [] (fun f vs => PySem.call f vs) := by
  intro w s₀ s₁ mg mb G Y fa o pm cd doc dV kV ho hd hcd hD hmg hg args vals as hpre hlay hrd hwl hlo
  obtain rfl : dV = .none := Dflts.none hD hdf
  obtain rfl : kV = .none := Dflts.noKw hD
  obtain ⟨a, vs, ns, rfl, rfl, hobj, hints, hlen⟩ := script_of hn hpre hwl
  refine enter_call (codeAny_mono (call w s₀ s₁ mg mb fa o pm cd doc a vs ns G Y ho (fd_plain hd) hcd hmg hobj hints hlen hg) fun r s' hq => ?_)
  obtain ⟨rfl, h2, h3, h4⟩ := hq
  exact ⟨.inl ⟨.bool true, .bool true, [], rfl, fun _ => rfl, .bool true, post_true l _, fun _ => ⟨List.Pairwise.nil, fun _ hm => (nomatch hm)⟩⟩, h2, h3, h4⟩
section
variable {prog : Program} {w : World} {A : Around} {E : Value → Shared → Prop} {s : Shared} {K : Frag}
def ledger (h : Heap) (L d : Addr) : List (Addr × Obj) := (List.range h.objs.size).filterMap fun a => if a = L ∨ a = d then none else (h.get? a).map fun o => (a, o)
end
end Att
namespace L2
open PySem PySem.Spec PyProof.Rows
theorem vals_ints : ∀ {vs : List Value} {ns : List Int}, IntsAre vs ns → Vals (ns.map V.int) vs
  | _, _, .nil => .nil
  | _, _, .cons n t h => .cons ⟨t, rfl⟩ (vals_ints h)
def Only (H : Hp) : Prop := ∀ b, H b = none ∨ ∃ o xs, H b = some (.frz o (.lst xs))
theorem law_call {P : Program} {w : World} {K : PySem.W.Frag} {mg mb : Str → Option Value} {CX : CXT} {k : Nat} {fa a : Addr} {fd : FuncData} {x : Str} {sp : Sp} {s₁ : Shared} {vs : List Value} {ns : List Int}
    (KX : K.In s₁.heap) (hns : s₁.heap.Ns mainGlobals mg) (hb : s₁.heap.Ns builtinsNs mb) (hbb : ∀ x : Str, x ≠ "__name__" → mb x = bootBuiltins x) (hlim : s₁.heap.NoLimit) (hg : s₁.gens = #[])
    (ha : s₁.heap.get? a = some { cls := .type "list", data := .seq vs.toArray }) (hi : IntsAre vs ns) (hl : ns.length ≤ sizeLine) (hr : Room k callerA)
    (F : ∀ base : Heap, K.In base → base.Ns mainGlobals mg → FnOk P w K mg base CX k fa fd [x] sp) (hbind : ∀ (s : Shared) (u : Value), BindsTo s fd ⟨[u], []⟩ [(x, u)])
    (hsp : ∀ H : Hp, Only H → SqL K H a (ns.map V.int) → sp [.ref a] H (fun v _ => v = .bl true) fun _ _ _ => False)
    (hCX : ∀ H e s', CX [] H s₁ (fun _ _ _ => False) e s' → False) :
    codeAny (model P w) callerA (.call (.ref fa) ⟨[.ref a], []⟩) (fun r s' => r = .ok (.ret (.bool true)) ∧ OldK s₁.heap s'.heap ∧ s'.os = s₁.os ∧ AllBare s'.gens) s₁ := by
  have rv := vals_ints hi
  have lenV := hi.length
  have core : ∀ H : Hp, Only H → SqL K H a (ns.map V.int) → HOk P w H s₁.heap → (∀ b, H b ≠ none → b = a) → (H a ≠ none → K.lookup a = none) →
      codeAny (model P w) callerA (.call (.ref fa) ⟨[.ref a], []⟩) (fun r s' => r = .ok (.ret (.bool true)) ∧ OldK s₁.heap s'.heap ∧ s'.os = s₁.os ∧ AllBare s'.gens) s₁ := by
    intro H hO hS hok hA hK
    have base_of : ∀ {b : Addr} {o : Obj}, s₁.heap.get? b = some o → H b = none → (hidT s₁.heap H).get? b = some o := fun e n => hidT_get e n
    have noA : ∀ {b : Addr} {o : Obj} {es : Array DictEntry} {ep : Nat}, s₁.heap.get? b = some o → o.data = .dict es ep → H b = none := fun {b o es ep} e d => by
      cases q : H b with
      | none => rfl
      | some u =>
        have e' : b = a := hA b (by rw [q]; simp)
        subst e'
        rw [ha] at e; cases e
        have d' : Data.seq vs.toArray _ = Data.dict es ep := d
        cases d'
    have nsK : ∀ {b : Addr} {m : Str → Option Value}, s₁.heap.Ns b m → (hidT s₁.heap H).Ns b m := fun {b m} ⟨o, es, ep, e, d, r⟩ => ⟨o, es, ep, base_of e (noA e d), d, r⟩
    have hKb : K.In (hidT s₁.heap H) := fun b o e => base_of (KX b o e) (by
      cases q : H b with
      | none => rfl
      | some u =>
        have e' : b = a := hA b (by rw [q]; simp)
        subst e'
        rw [hK (by rw [q]; simp)] at e; cases e)
    have hM : Mod K mg (hidT s₁.heap H) := ⟨hKb, nsK hns, ⟨mb, nsK hb, hbb⟩, let ⟨mc, h1, h2⟩ := hlim; ⟨mc, nsK h1, h2⟩⟩
    have e0 : Env0 P w K mg (hidT s₁.heap H) callerA [] s₁ H := ⟨rfl, hM, fun b o e => of_hidT e, Nat.le_of_eq (hidT_size _ _), trivial, fun b hb => absurd (show b ∈ ([] : List Addr) from hb) (by simp), hok, .of_eq hg⟩
    refine codeAny_mono ((F _ hKb (nsK hns)).run callerA [] s₁ H ⟨[.ref a], []⟩ [.ref a] [.ref a] _ _ hr e0 (hbind s₁ (.ref a)) (.cons rfl .nil) (hsp H hO hS)) fun r s' h => ?_
    cases r with
    | error e => exact (hCX H e s' h).elim
    | ok fl =>
      cases fl with
      | next => exact False.elim h
      | brk => exact False.elim h
      | cont => exact False.elim h
      | ret u =>
        obtain ⟨v, H', os, bare, un, hok', r', q⟩ := h
        have q' : v = .bl true := q
        subst q'
        obtain rfl : u = Value.bool true := r'
        refine ⟨rfl, OldK.of_keep fun b o e => ?_, os, bare⟩
        cases q : H b with
        | none => exact un.keep b o e q (by intro z; exact absurd (show b ∈ ([] : List Addr) from z) (by simp)) (by simp)
        | some u =>
          rcases hO b with z | ⟨ob, xs, z⟩
          · rw [q] at z; cases z
          · have z2 := un.frzs b ob _ z
            obtain ⟨e1, _⟩ := hok b _ z
            obtain ⟨e2, _⟩ := hok' b _ z2
            rw [e] at e1; cases e1
            exact e2
  cases hk : K.lookup a with
  | some o =>
    have e := KX a o hk
    rw [ha] at e
    cases e
    refine core (fun _ => none) (fun _ => .inl rfl) (.inr ⟨_, vs.toArray, _, hk, rfl, rfl, rfl, by rw [List.size_toArray, lenV]; exact hl, by simpa using rv⟩) (fun b u z => by have z' : (none : Option HO) = some u := z; cases z') (fun b z => absurd rfl z) fun z => absurd rfl z
  | none =>
    refine core (fun b => if b = a then some (.frz { cls := .type "list", data := .seq vs.toArray } (.lst (ns.map V.int))) else none) (fun b => ?_) (.inl (.inr ⟨{ cls := .type "list", data := .seq vs.toArray }, if_pos rfl⟩)) (fun b u z => ?_) (fun b z => ?_) fun _ => hk
    · by_cases hb : b = a
      · exact .inr ⟨_, _, if_pos hb⟩
      · exact .inl (if_neg hb)
    · by_cases hb : b = a
      · have z' := (if_pos hb).symm.trans z
        cases z'
        subst hb
        exact ⟨ha, by rw [List.length_map]; exact hl, vs, _, rv, ha⟩
      · have z' := (if_neg hb).symm.trans z
        cases z'
    · by_cases hb : b = a
      · exact hb
      · exact absurd (if_neg hb) z
end L2
namespace L2
open PySem PySem.Spec PyProof.Rows
abbrev KOf {K : PySem.W.Frag} {h : Heap} (_ : K.In h) : PySem.W.Frag := K
theorem walk_of {l : PySem.W.OpenLaw} {n k : Nat} {q : Program} {loose : List Str} {XP : (Str → Option Value) → Heap → Prop} {YP : World → Heap → Prop} {d : DefRec} {K : Params → PySem.W.Frag} {CX : World → CXT} {sp : World → Sp} {x : Str}
    (hn : l.most = some n) (hn2 : n ≤ sizeLine) (hdf : d.params.defaults = []) (hr : Room k callerA)
    (hY : ∀ (w : World) (h : Heap), YP w h → (K w.params).In h)
    (F : ∀ (w : World) (mg : Str → Option Value) (fa : Addr) (h : Heap), (K w.params).In h → h.Ns mainGlobals mg → mg d.name = some (.ref fa) →
      ∃ fd : FuncData, (∀ (s : Shared) (u : Value), BindsTo s fd ⟨[u], []⟩ [(x, u)]) ∧
        ∀ base : Heap, (K w.params).In base → base.Ns mainGlobals mg → FnOk l.prog w (K w.params) mg base (CX w) k fa fd [x] (sp w))
    (hsp : ∀ (w : World) (H : Hp) (a : Addr) (ns : List Int), ns.length ≤ n → Only H → SqL (K w.params) H a (ns.map V.int) → sp w [.ref a] H (fun v _ => v = .bl true) fun _ _ _ => False)
    (hCX : ∀ (w : World) (H : Hp) (s : Shared) (e : Value) (s' : Shared), CX w [] H s (fun _ _ _ => False) e s' → False) :
    PySem.W.WalkO q loose XP YP l.row.toRowW d [] (fun f vs => PySem.call f vs) := by
  refine Att.attach_call hn hdf fun w s₀ s₁ mg mb fa o pm cd doc a vs ns G Y ho hd hcd hmg hobj hints hlen hg => ?_
  have KX := hY w _ Y
  obtain ⟨fd, hb, hF⟩ := F w mg fa _ KX G.T.g hmg
  exact law_call KX G.T.g G.T.b G.T.builtins G.T.nolimit hg hobj hints (Nat.le_trans hlen hn2) hr hF hb (fun H hO hS => hsp w H a ns hlen hO hS) fun H e s' => hCX w H s₁ e s'
end L2
namespace L2
open PySem PySem.Spec PyProof.Rows
def defArgs (s : Stmt) : Arguments := match s with
  | .FunctionDef _ a _ _ _ _ _ _ _ _ => a
  | _ => { posonlyargs := [], args := [], vararg := none, kwonlyargs := [], kw_defaults := [], kwarg := none, defaults := [] }
def defBody (s : Stmt) : List Stmt := match s with
  | .FunctionDef _ _ b _ _ _ _ _ _ _ => b
  | _ => []
def defScope (s : Stmt) : Scope := match s with
  | .FunctionDef _ _ _ _ _ _ sc _ _ _ => sc
  | _ => { kind := .function, names := [], isGenerator := false, isCoroutine := false }
abbrev CX0 : CXT := fun _ _ _ _ _ _ => False
abbrev E0 : XK := fun _ _ _ => False
structure Fun (K : PySem.W.Frag) (x qual : Str) (st : Stmt) (f : Addr) (fd : FuncData) : Prop where
  ex : ∃ (oc : Value) (od : Option Addr) (kV doc pm : Value) (an : Option Addr) (cdv ct : Value) (osl : Array (Option Value)),
    fd = PySem.W.fnOf x qual (defArgs st) (defBody st) (defScope st) .none kV doc pm an cdv ct ∧ K.lookup f = some ⟨oc, od, .func fd, osl⟩ ∧ PySem.W.codeIn K cdv qual = true
  kp : PySem.W.keepIn K (.ref f) = true
section
variable {P : Program} {w : World} {K : PySem.W.Frag} {mg : Str → Option Value} {base : Heap}
theorem Fun.binds {x qual : Str} {st : Stmt} {f : Addr} {fd : FuncData} {ps : List Str} (F : Fun K x qual st f fd)
    (h : ∀ (kV doc pm : Value) (an : Option Addr) (cdv ct : Value) (us : List Value), us.length = ps.length → bindArgs (PySem.W.fnOf x qual (defArgs st) (defBody st) (defScope st) .none kV doc pm an cdv ct) ⟨us, []⟩ = pure (ps.zip us)) : Binds K fd ps [] := by
  obtain ⟨oc, od, kV, doc, pm, an, cdv, ct, osl, rfl, lk, hcd⟩ := F.ex
  exact .all (h kV doc pm an cdv ct)
theorem fun_mk {x qual : Str} {st : Stmt} {f : Addr} {oc : Value} {od an : Option Addr} {osl : Array (Option Value)} {kV doc pm cdv ct : Value} (l : K.lookup f = some ⟨oc, od, .func (PySem.W.fnOf x qual (defArgs st) (defBody st) (defScope st) .none kV doc pm an cdv ct), osl⟩)
    (c : PySem.W.codeIn K cdv qual = true) (k : PySem.W.keepIn K (.ref f) = true) : Fun K x qual st f (PySem.W.fnOf x qual (defArgs st) (defBody st) (defScope st) .none kV doc pm an cdv ct) := ⟨⟨oc, od, kV, doc, pm, an, cdv, ct, osl, rfl, l, c⟩, k⟩
end
section
variable {X : Cx}
end
theorem iteF {A B : Prop} (h : B) : if false = true then A else B := by
  rw [if_neg Bool.false_ne_true]
  exact h
theorem iteT {A B : Prop} (h : A) : if true = true then A else B := by
  rw [if_pos rfl]
  exact h
def Same (H H' : Hp) : Prop := ∀ b o, H b = some o → H' b = some o
theorem Same.refl (H : Hp) : Same H H := fun _ _ h => h
theorem Same.trans {H H1 H2 : Hp} (a : Same H H1) (b : Same H1 H2) : Same H H2 := fun c o h => b c o (a c o h)
theorem Same.free {H H' : Hp} (e : Same H H') {l : Addr} (h : H' l = Option.none) : H l = Option.none := by
  cases q : H l with
  | none => rfl
  | some o =>
    rw [e l o q] at h
    cases h
theorem Same.seq {K : PySem.W.Frag} {H H' : Hp} {a : Addr} {xs : List V} (e : Same H H') (h : SqL K H a xs) : SqL K H' a xs := by
  rcases h with (h | ⟨o, h⟩) | h
  · exact .inl (.inl (e _ _ h))
  · exact .inl (.inr ⟨o, e _ _ h⟩)
  · exact .inr h
end L2
set_option maxHeartbeats 4000000
namespace NB
theorem gcd_fmod (a b : Int) : Int.gcd b (a.fmod b) = Int.gcd a b := by
  rw [Int.fmod_def, Int.gcd_comm]
  have : a - b * a.fdiv b = a + b * (-(a.fdiv b)) := by rw [Int.mul_neg]; omega
  rw [this, Int.gcd_comm, Int.gcd_add_mul_left_right, Int.gcd_comm]
theorem fmod_lt (a b : Int) (h : b ≠ 0) : (a.fmod b).natAbs < b.natAbs := by
  rcases Int.lt_or_gt_of_ne h with hb | hb
  · have e : (-(-a)).fmod (-(-b)) = -((-a).fmod (-b)) := by
      rw [Int.neg_fmod_neg]
    rw [Int.neg_neg, Int.neg_neg] at e
    have h1 := Int.fmod_nonneg_of_pos (-a) (b := -b) (by omega)
    have h2 := Int.fmod_lt_of_pos (-a) (b := -b) (by omega)
    omega
  · have h1 := Int.fmod_nonneg_of_pos a hb
    have h2 := Int.fmod_lt_of_pos a hb
    omega
theorem fdiv_exact {a d q : Int} (hd : d ≠ 0) (h : a = d * q) : a.fdiv d = q := by
  subst h
  rw [Int.mul_fdiv_cancel_left _ hd]
theorem num_low (t b : Int) (hb : b ≠ 0) (d : Int) (hd : d = if b < 0 then -(Int.gcd t b : Int) else (Int.gcd t b : Int)) :
    d ≠ 0 ∧ t.fdiv d = (Rat.divInt t b).num ∧ b.fdiv d = ((Rat.divInt t b).den : Int) := by
  have g0 : (Int.gcd t b : Int) ≠ 0 := by
    intro z
    have : Int.gcd t b = 0 := by omega
    rw [Int.gcd_eq_zero_iff] at this
    exact hb this.2
  have gp : 0 < (Int.gcd t b : Int) := by omega
  have h1 := Int.gcd_dvd_left t b
  have h2 := Int.gcd_dvd_right t b
  obtain ⟨x, hx⟩ := h1
  obtain ⟨y, hy⟩ := h2
  have hd0 : d ≠ 0 := by subst hd; split <;> omega
  refine ⟨hd0, ?_, ?_⟩
  · rw [Rat.num_divInt, Int.gcd_comm b t]
    by_cases hn : b < 0
    · rw [if_pos hn] at hd
      rw [Int.sign_eq_neg_one_of_neg hn]
      refine fdiv_exact hd0 ?_
      have e : -1 * t / (Int.gcd t b : Int) = -x := by
        have : -1 * t = (Int.gcd t b : Int) * (-x) := by rw [Int.mul_neg, ← hx]; omega
        rw [this, Int.mul_ediv_cancel_left _ g0]
      rw [e, hd, Int.neg_mul_neg]; exact hx
    · rw [if_neg hn] at hd
      rw [Int.sign_eq_one_of_pos (by omega)]
      refine fdiv_exact hd0 ?_
      have e : 1 * t / (Int.gcd t b : Int) = x := by
        have : 1 * t = (Int.gcd t b : Int) * x := by rw [← hx]; omega
        rw [this, Int.mul_ediv_cancel_left _ g0]
      rw [e, hd]; exact hx
  · rw [Rat.den_divInt, if_neg hb, Int.gcd_comm b t]
    refine fdiv_exact hd0 ?_
    have hyn : b.natAbs = Int.gcd t b * y.natAbs := by
      conv => lhs; rw [hy]
      rw [Int.natAbs_mul]; simp
    have e : b.natAbs / Int.gcd t b = y.natAbs := by
      rw [hyn, Nat.mul_div_cancel_left _ (by omega)]
    rw [e]
    by_cases hn : b < 0
    · rw [if_pos hn] at hd
      have : y < 0 := by
        rcases Int.lt_or_le y 0 with q | q
        · exact q
        · have := Int.mul_nonneg (Int.le_of_lt gp) q
          omega
      have e2 : (y.natAbs : Int) = -y := by omega
      rw [e2, hd, Int.neg_mul_neg]; exact hy
    · rw [if_neg hn] at hd
      have : 0 ≤ y := by
        rcases Int.lt_or_le y 0 with q | q
        · have := Int.mul_neg_of_pos_of_neg gp q
          omega
        · exact q
      have e2 : (y.natAbs : Int) = y := by omega
      rw [e2, hd]; exact hy
theorem plus_eq (a b : Rat) : Rat.divInt (a.num * b.den + b.num * a.den) ((a.den : Int) * b.den) = a + b := by
  rw [Rat.add_def', ← Rat.divInt_ofNat]; simp
theorem minus_eq (a b : Rat) : Rat.divInt (a.num * b.den - b.num * a.den) ((a.den : Int) * b.den) = a - b := by
  rw [Rat.sub_def', ← Rat.divInt_ofNat]; simp
theorem times_eq (a b : Rat) : Rat.divInt (a.num * b.num) ((a.den : Int) * b.den) = a * b := by
  rw [Rat.mul_def', ← Rat.divInt_ofNat]; simp
theorem over_eq (a b : Rat) : Rat.divInt (a.num * b.den) ((a.den : Int) * b.num) = a / b := by
  rw [Rat.div_def, Rat.inv_def]
  conv => rhs; rw [← Rat.num_divInt_den a]
  rw [Rat.divInt_mul_divInt]
end NB
namespace NB
def Sz (n : Nat) (q : Rat) : Prop := q.num.natAbs < 2 ^ n ∧ q.den < 2 ^ n
theorem Sz.mono {m n : Nat} {q : Rat} (h : Sz m q) (hmn : m ≤ n) : Sz n q :=
  ⟨Nat.lt_of_lt_of_le h.1 (Nat.pow_le_pow_right (by decide) hmn), Nat.lt_of_lt_of_le h.2 (Nat.pow_le_pow_right (by decide) hmn)⟩
theorem natAbs_ediv_le (a : Int) (g : Nat) : (a / (g : Int)).natAbs ≤ a.natAbs := by
  rcases Nat.eq_zero_or_pos g with h | h
  · subst h; simp
  · have := Int.natAbs_ediv_le_natAbs a (g : Int); exact this
theorem Sz.divInt {n : Nat} {t b : Int} (hb : b ≠ 0) (h1 : t.natAbs < 2 ^ n) (h2 : b.natAbs < 2 ^ n) : Sz n (Rat.divInt t b) := by
  refine ⟨?_, ?_⟩
  · rw [Rat.num_divInt]
    refine Nat.lt_of_le_of_lt ?_ h1
    by_cases hdv : (b.sign * t).natAbs = t.natAbs
    · exact hdv ▸ natAbs_ediv_le _ _
    · exfalso; apply hdv
      rw [Int.natAbs_mul]
      rcases Int.lt_or_gt_of_ne hb with h | h
      · rw [Int.sign_eq_neg_one_of_neg h]; simp
      · rw [Int.sign_eq_one_of_pos h]; simp
  · rw [Rat.den_divInt, if_neg hb]
    exact Nat.lt_of_le_of_lt (Nat.div_le_self _ _) h2
theorem mul_lt {a b m n : Nat} (h1 : a < 2 ^ m) (h2 : b < 2 ^ n) : a * b < 2 ^ (m + n) := by
  rw [Nat.pow_add]
  exact Nat.mul_lt_mul'' h1 h2
theorem Sz.mul {m n : Nat} {p q : Rat} (hp : Sz m p) (hq : Sz n q) : Sz (m + n) (p * q) := by
  rw [Rat.mul_def', ← Rat.divInt_ofNat]
  refine Sz.divInt ?_ ?_ ?_
  · have := p.den_nz; have := q.den_nz
    have h := Nat.mul_ne_zero p.den_nz q.den_nz
    omega
  · rw [Int.natAbs_mul]; exact mul_lt hp.1 hq.1
  · rw [Int.natAbs_natCast]; exact mul_lt hp.2 hq.2
theorem two_pow (k : Nat) : 2 ^ (k + 1) = 2 ^ k + 2 ^ k := by rw [Nat.pow_succ]; omega
theorem Sz.add {m n : Nat} {p q : Rat} (hp : Sz m p) (hq : Sz n q) : Sz (m + n + 1) (p + q) := by
  rw [Rat.add_def', ← Rat.divInt_ofNat]
  have h1 := mul_lt hp.1 hq.2
  have h2 := mul_lt hq.1 hp.2
  have h3 := mul_lt hp.2 hq.2
  rw [Nat.add_comm n m] at h2
  have e := two_pow (m + n)
  refine Sz.divInt ?_ ?_ ?_
  · have h := Nat.mul_ne_zero p.den_nz q.den_nz
    omega
  · have t1 : (p.num * (q.den : Int)).natAbs = p.num.natAbs * q.den := by rw [Int.natAbs_mul]; simp
    have t2 : (q.num * (p.den : Int)).natAbs = q.num.natAbs * p.den := by rw [Int.natAbs_mul]; simp
    have t3 := Int.natAbs_add_le (p.num * (q.den : Int)) (q.num * (p.den : Int))
    omega
  · rw [Int.natAbs_natCast]; omega
theorem Sz.neg {n : Nat} {q : Rat} (h : Sz n q) : Sz n (-q) := by
  refine ⟨?_, h.2⟩
  rw [Rat.neg_num, Int.natAbs_neg]; exact h.1
theorem Sz.inv {n : Nat} {q : Rat} (h : Sz n q) (hn : 0 < n) : Sz n q⁻¹ := by
  refine ⟨?_, ?_⟩
  · rw [Rat.num_inv, Int.natAbs_mul]
    refine Nat.lt_of_le_of_lt ?_ h.2
    have : q.num.sign.natAbs ≤ 1 := by
      rw [Int.natAbs_sign]; split <;> omega
    calc q.num.sign.natAbs * (q.den : Int).natAbs ≤ 1 * (q.den : Int).natAbs := Nat.mul_le_mul_right _ this
      _ = q.den := by simp
  · rw [Rat.den_inv]
    split
    · exact Nat.one_lt_two_pow (by omega)
    · exact h.1
theorem Sz.zero {n : Nat} (h : 0 < n) : Sz n 0 := ⟨by simp; exact Nat.two_pow_pos n, by simp; omega⟩
end NB
namespace L3
open PySem PySem.Spec PyProof.Rows L2
section
variable {X : Cx}
theorem op_mulW : OpR X (binaryOp .Mult) (rI IntMulOk fun i j => .int (i * j)) := opI fun _ _ _ _ _ _ _ hc q => mul_int q hc
theorem op_fdivW : OpR X (binaryOp .FloorDiv) (rI (fun _ j => j ≠ 0 ∧ j.natAbs < 2 ^ 9000) fun i j => .int (i.fdiv j)) :=
  opI fun _ j _ _ _ _ _ hc q => floordiv_int hc.1 q (.inl (PyProof.noPylong_of_log2 (by
    have h0 : j.natAbs ≠ 0 := by have := hc.1; omega
    exact (Nat.log2_lt h0).mpr hc.2)))
end
theorem mulOk {a b : Int} {m n : Nat} (ha : a.natAbs < 2 ^ m) (hb : b.natAbs < 2 ^ n) (h : m + n ≤ 1000000) : IntMulOk a b :=
  IntMulOk.of_le (intBits_le_iff.mpr ha) (intBits_le_iff.mpr hb) (by omega)
mutual
inductive DV (K : PySem.W.Frag) (H : Hp) : V → PyData → Prop
  | non : DV K H .non .none
  | bl (b : Bool) : DV K H (.bl b) (.bool b)
  | int (i : Int) : DV K H (.int i) (.int i)
  | str (x : Str) : DV K H (.str x) (.str x)
  | tup {a : Addr} {xs : List V} {ds : List PyData} : SqT K H a xs → DVs K H xs ds → DV K H (.ref a) (.tuple ds)
  | lst {a : Addr} {xs : List V} {ds : List PyData} : SqL K H a xs → DVs K H xs ds → DV K H (.ref a) (.list ds)
inductive DVs (K : PySem.W.Frag) (H : Hp) : List V → List PyData → Prop
  | nil : DVs K H [] []
  | cons {v : V} {vs : List V} {d : PyData} {ds : List PyData} : DV K H v d → DVs K H vs ds → DVs K H (v :: vs) (d :: ds)
end
def TK (H H' : Hp) : Prop := (∀ a xs, H a = some (.tup xs) → H' a = some (.tup xs)) ∧ ∀ a o u, H a = some (.frz o u) → H' a = some (.frz o u)
theorem TK.of {H H' : Hp} (s : Same H H') : TK H H' := ⟨fun a _ h => s a _ h, fun a _ _ h => s a _ h⟩
theorem same_new {H : Hp} {p : Addr} (h : H p = none) (o : HO) : Same H (upd H p o) := fun b u q => by rw [upd_ne (ne_of_none q h)]; exact q
theorem TK.tup {K : PySem.W.Frag} {H H' : Hp} {a : Addr} {xs : List V} (e : TK H H') (h : SqT K H a xs) : SqT K H' a xs := by
  rcases h with (h | ⟨o, h⟩) | h
  · exact .inl (.inl (e.1 _ _ h))
  · exact .inl (.inr ⟨o, e.2 _ _ _ h⟩)
  · exact .inr h
theorem SameT {K : PySem.W.Frag} {H H' : Hp} {a : Addr} {xs : List V} (e : Same H H') (h : SqT K H a xs) : SqT K H' a xs := (TK.of e).tup h
mutual
def noL : PyData → Bool
  | .list _ => false
  | .tuple ds => noLs ds
  | _ => true
def noLs : List PyData → Bool
  | [] => true
  | d :: ds => noL d && noLs ds
end
mutual
theorem DV.ts {K : PySem.W.Frag} {H H' : Hp} (e : TK H H') : ∀ {v : V} {d : PyData}, DV K H v d → noL d = true → DV K H' v d
  | _, _, .non, _ => .non
  | _, _, .bl b, _ => .bl b
  | _, _, .int i, _ => .int i
  | _, _, .str x, _ => .str x
  | _, _, .tup h r, n => .tup (e.tup h) (DVs.ts e r (by simpa [noL] using n))
  | _, _, .lst h r, n => by simp [noL] at n
theorem DVs.ts {K : PySem.W.Frag} {H H' : Hp} (e : TK H H') : ∀ {vs : List V} {ds : List PyData}, DVs K H vs ds → noLs ds = true → DVs K H' vs ds
  | _, _, .nil, _ => .nil
  | _, _, .cons r q, n => by
    simp only [noLs, Bool.and_eq_true] at n
    exact .cons (DV.ts e r n.1) (DVs.ts e q n.2)
end
mutual
theorem DV.same {K : PySem.W.Frag} {H H' : Hp} (e : Same H H') : ∀ {v : V} {d : PyData}, DV K H v d → DV K H' v d
  | _, _, .non => .non
  | _, _, .bl b => .bl b
  | _, _, .int i => .int i
  | _, _, .str x => .str x
  | _, _, .tup h r => .tup (SameT e h) (DVs.same e r)
  | _, _, .lst h r => .lst (e.seq h) (DVs.same e r)
theorem DVs.same {K : PySem.W.Frag} {H H' : Hp} (e : Same H H') : ∀ {vs : List V} {ds : List PyData}, DVs K H vs ds → DVs K H' vs ds
  | _, _, .nil => .nil
  | _, _, .cons r q => .cons (DV.same e r) (DVs.same e q)
end
section
variable {X : Cx} {pins : List (Addr × Obj)} {σ : L2.St} {H : Hp} {s : Shared}
mutual
theorem DV.reads (I : Inv X pins σ H s) : ∀ {v : V} {d : PyData} {u : Value}, DV X.K H v d → RelV v u → ∃ as, Reads s.heap u d as
  | _, _, _, .non, r => by cases r; exact ⟨_, .none⟩
  | _, _, _, .bl b, r => by cases r; exact ⟨_, .bool b⟩
  | _, _, _, .int i, r => by obtain ⟨t, rfl⟩ := r; exact ⟨_, .int i t⟩
  | _, _, _, .str x, r => by obtain ⟨t, rfl⟩ := r; exact ⟨_, .str x t⟩
  | _, _, _, .tup h q, r => by
    cases r
    obtain ⟨its, r', ⟨o, ho, hc, n, hd⟩, _⟩ := I.tuple h
    obtain ⟨as, z⟩ := DVs.reads I q r'
    exact ⟨as, .tuple ho hc hd (by simpa using z)⟩
  | _, _, _, .lst h q, r => by
    cases r
    obtain ⟨its, r', pl, _⟩ := I.list h
    obtain ⟨o, ho, hc, n, hd⟩ := pl.isList
    obtain ⟨as, z⟩ := DVs.reads I q r'
    exact ⟨_, .list ho hc hd (by simpa using z)⟩
theorem DVs.reads (I : Inv X pins σ H s) : ∀ {vs : List V} {ds : List PyData} {us : List Value}, DVs X.K H vs ds → Vals vs us → ∃ as, ReadsAll s.heap us ds as
  | _, _, _, .nil, r => by cases r; exact ⟨_, .nil⟩
  | _, _, _, .cons h q, r => by
    cases r with
    | cons r1 r2 =>
      obtain ⟨as, z1⟩ := DV.reads I h r1
      obtain ⟨bs, z2⟩ := DVs.reads I q r2
      exact ⟨_, .cons z1 z2⟩
end
end
def okD (d : PyData) : Bool := SeqAt.shaped d
section
variable {X : Cx}
def rEqD (K : PySem.W.Frag) : R2 := fun x y H Q => ∃ d e, DV K H x d ∧ DV K H y e ∧ okD d = true ∧ okD e = true ∧ Q (.bl (PyData.eqv d e)) H
def rNeD (K : PySem.W.Frag) : R2 := fun x y H Q => ∃ d e, DV K H x d ∧ DV K H y e ∧ okD d = true ∧ okD e = true ∧ Q (.bl (!PyData.eqv d e)) H
theorem op_eqD (hu : X.A.units + 64 < cLine) : OpR X (compareOp .Eq) (rEqD X.K) := by
  intro pins s σ H x y v u Q I rx ry h
  obtain ⟨d, e, h1, h2, o1, o2, q⟩ := h
  obtain ⟨as, r1⟩ := DV.reads I h1 rx
  obtain ⟨bs, r2⟩ := DV.reads I h2 ry
  exact eq_dataH r1 r2 o1 o2 hu ⟨.bl _, H, I, rfl, q⟩
theorem op_neD (hu : X.A.units + 64 < cLine) : OpR X (compareOp .NotEq) (rNeD X.K) := by
  intro pins s σ H x y v u Q I rx ry h
  obtain ⟨d, e, h1, h2, o1, o2, q⟩ := h
  obtain ⟨as, r1⟩ := DV.reads I h1 rx
  obtain ⟨bs, r2⟩ := DV.reads I h2 ry
  exact ne_dataH r1 r2 o1 o2 hu ⟨.bl _, H, I, rfl, q⟩
end
structure Cal (P : Program) (w : World) (K : PySem.W.Frag) (mg : Str → Option Value) (base : Heap) (CX : CXT) (k : Nat) (x : Str) (ps : List Str) (sp : Sp) : Prop where
  ex : ∃ (f : Addr) (fd : FuncData), FnOk P w K mg base CX k f fd ps sp ∧ Binds K fd ps [] ∧ PySem.W.keepIn K (.ref f) = true ∧ mg x = some (.ref f)
section
variable {X : Cx} {CX : CXT} {k n : Nat} {x : Str} {ps : List Str} {sp : Sp} {E : XK} {p pos : Pos} {e : Expr} {es : List Expr} {t : TA}
theorem pe_calX (C : Cal X.prog X.w X.K X.mg X.base CX k x ps sp) (hr : Room n X.A) (hx : Passes CX X E) (ha : PA X (e :: es) t) (hn : k ≤ n := by decide) (hg : Gl X x := by rfl) (hdb : (x == ("__debug__" : Str)) = false := by decide)
    (he : starEach (e :: es) X.env = (false, eval e X.env) :: starEach es X.env := by rfl) (hpl : (backTo pos (starEach es X.env)).any (·.1) = false := by rfl) :
    PE X (.Call (.Name x p) (e :: es) [] pos) (tCall sp [] E t) := by
  obtain ⟨f, fd, F, b, kp, m⟩ := C.ex
  exact pe_call F (hr.mono hn) hg m kp b .nil hx ha hdb he hpl
end
inductive TyX (K : PySem.W.Frag) (H : Hp) : V → Value → Prop where
  | non : TyX K H .non (.type "NoneType")
  | bl (x : Bool) : TyX K H (.bl x) (.type "bool")
  | int (i : Int) : TyX K H (.int i) (.type "int")
  | str (x : Str) : TyX K H (.str x) (.type "str")
  | lst {a : Addr} {xs : List V} (e : SqL K H a xs) : TyX K H (.ref a) (.type "list")
  | tup {a : Addr} {xs : List V} (e : SqT K H a xs) : TyX K H (.ref a) (.type "tuple")
section
variable {X : Cx} {pins : List (Addr × Obj)} {σ : L2.St} {H : Hp} {s : Shared} {A : Around} {E : Value → Shared → Prop} {Q : Value → Shared → Prop} {c : Value} {b : Bool}
theorem TyX.kit {x : V} {u t : Value} (I : Inv X pins σ H s) (rx : RelV x u) (ty : TyX X.K H x t) : u ≠ .builtin "__main__.__loader__#opaque" ∧ ∃ HP : Heap → Prop, PySem.W.KitX X.K u t HP ∧ HP s.heap := by
  cases ty with
  | non => cases (show u = Value.none from rx); exact ⟨fun z => (nomatch z), _, PySem.W.kitx_none, True.intro⟩
  | bl y => cases (show u = Value.bool y from rx); exact ⟨fun z => (nomatch z), _, PySem.W.kitx_bool, True.intro⟩
  | int i => obtain ⟨t, q⟩ := (show ∃ t, u = Value.int i t from rx); cases q; exact ⟨fun z => (nomatch z), _, PySem.W.kitx_int, True.intro⟩
  | str y => obtain ⟨t, q⟩ := (show ∃ t, u = Value.str y t from rx); cases q; exact ⟨fun z => (nomatch z), _, PySem.W.kitx_str, True.intro⟩
  | @lst a xs ea =>
    cases (show u = Value.ref a from rx)
    obtain ⟨its, _, pl, _⟩ := I.list ea
    obtain ⟨o, ho, hc, _⟩ := pl.isList
    exact ⟨fun z => (nomatch z), _, PySem.W.kitx_list, ⟨o, ho, hc⟩⟩
  | @tup a xs ea =>
    cases (show u = Value.ref a from rx)
    obtain ⟨its, _, ⟨o, ho, hc, _⟩, _⟩ := I.tuple ea
    exact ⟨fun z => (nomatch z), _, PySem.W.kitx_tuple, ⟨o, ho, hc⟩⟩
end
def vOf : V → Value
  | .ty n => .type n
  | .ref a => .ref a
  | _ => .none
def isCls : V → Bool
  | .ty _ => true
  | .ref _ => true
  | _ => false
theorem vOf_of {x : V} {u : Value} (h : isCls x = true) (r : RelV x u) : u = vOf x := by
  cases x <;> simp [isCls] at h <;> exact r
section
variable {X : Cx}
end
end L3
namespace L3
open PySem PySem.Spec PyProof.Rows L2
theorem ok_there {P : Program} {w : World} {H : Hp} {h : Heap} {a : Addr} {o : HO} (x : ObjOk P w H h a o) : ∃ ob, h.get? a = some ob := by
  cases o with
  | lst xs => obtain ⟨_, _, _, _, e⟩ := x; exact ⟨_, e⟩
  | tup xs => obtain ⟨_, _, _, ob, e, _⟩ := x; exact ⟨ob, e⟩
  | dK kvs => obtain ⟨_, _, _, _, o, _, _, e, _⟩ := x; exact ⟨o, e⟩
  | dT kvs => obtain ⟨_, _, _, _, o, _, _, e, _⟩ := x; exact ⟨o, e⟩
  | set S n => obtain ⟨o, _, _, _, e, _⟩ := x; exact ⟨o, e⟩
  | ins C dx fs => obtain ⟨_, _, _, e, _⟩ := x; exact ⟨_, e⟩
  | own y => exact x
  | xd fs => obtain ⟨_, ⟨o, _, _, e, _⟩, _⟩ := x; exact ⟨o, e⟩
  | rng lo hi => obtain ⟨_, _, _, e⟩ := x; exact ⟨_, e⟩
  | frz ob u => obtain ⟨e, _⟩ := x; exact ⟨_, e⟩
  | tbl ps => exact ⟨_, (show h.get? a = some _ from x)⟩
  | met f y => exact ⟨_, (show h.get? a = some _ from x)⟩
  | ext φ => obtain ⟨_, e, _⟩ := x; exact e
theorem un_to {P : Program} {w : World} {fs : List Addr} {H H1 : Hp} {h0 h h2 : Heap} (u : Un fs [] H H1 h0 h) (k : HOk P w H1 h)
    (cov : ∀ b o, h.get? b = some o → b ∉ fs → (h0.get? b ≠ none ∨ H1 b ≠ none) → h2.get? b = some o)
    (slot : ∀ b o, h.get? b = some o → b ∈ fs → ∃ sl, h2.get? b = some { o with slots := sl }) (free : ∀ b ∈ fs, H1 b = none) :
    Un fs [] H H1 h0 h2 ∧ HOk P w H1 h2 := by
  refine ⟨⟨fun b o q n hb hx => ?_, fun b o q n hb hx => ?_, u.free, fun b o q hx => ?_, u.tups, u.frzs, u.tbls⟩, fun a o e => ?_⟩
  · exact cov b o (u.keep b o q n hb hx) hb (.inl (by rw [q]; exact (fun z => nomatch z)))
  · obtain ⟨sl, e⟩ := u.slot b o q n hb hx
    obtain ⟨sl', e'⟩ := slot b _ e hb
    exact ⟨sl', e'⟩
  · obtain ⟨o', e⟩ := u.there b o q hx
    by_cases hb : b ∈ fs
    · obtain ⟨sl, e'⟩ := slot b o' e hb
      exact ⟨_, e'⟩
    · exact ⟨o', cov b o' e hb (.inl (by rw [q]; exact (fun z => nomatch z)))⟩
  · refine (k a o e).stay (fun b v hb q => ?_) (fun _ q => q) fun _ _ q => q
    have nn : H1 b ≠ none := by
      rcases hb with rfl | hb
      · rw [e]; exact (fun z => nomatch z)
      · rw [hb]; exact (fun z => nomatch z)
    exact cov b v q (fun hf => nn (free b hf)) (.inr nn)
def CXR (P : Program) (w : World) : CXT := fun outer H s E e s' =>
  ∃ (ea : Addr) (C : Value) (t : Addr) (B : Heap) (H' : Hp), e = .ref ea ∧ s'.os = s.os ∧ AllBare s'.gens ∧ Un (frs outer) [] H H' s.heap s'.heap ∧ HOk P w H' s'.heap ∧
    Heap.FlyingW B outer ea C (.ref t) s'.heap ∧ (∀ b o, s'.heap.get? b = some o → b ∉ frs outer → (s.heap.get? b ≠ none ∨ H' b ≠ none) → B.get? b = some o) ∧
    s.heap.get? ea = none ∧ H' ea = none ∧ E C none H'
section
variable {P : Program} {w : World} {K : PySem.W.Frag} {mg : Str → Option Value} {base : Heap} {N : List Str} {qual : Str} {scope : Scope} {f : Addr} {cd : Value} {A : Around} {outer : List Env} {s : Shared} {H : Hp} {E : XK}
def RaisesTo (X : Cx) (E : XK) : Prop := ∀ (pins : List (Addr × Obj)) (σ : L2.St) (H : Hp) (s : Shared) (h' : Heap) (ea : Addr) (C : Value) (vs : List Value),
  Inv X pins σ H s → Heap.MadeExcOf s.heap h' ea C vs → E C none H → X.xe (.ref ea) { s with heap := h' }
theorem raises_def : RaisesTo (cxOf (CXR P w) P w K mg base N qual scope f cd A outer s H E) E := by
  intro pins σ H1 s1 h' ea C vs I hm hE
  have st := I.stack
  have nL : ∀ b, (s.heap.get? b ≠ none ∨ H1 b ≠ none) → b ∉ frs outer → b ∉ frs (envOfC qual scope s.heap.objs.size f cd :: outer) := fun b hn hb hf => by
    rcases List.mem_cons.mp (I.stkSub b hf) with z | z
    · subst z
      rcases hn with hn | hn
      · exact hn (Heap.get?_none_of_le (Nat.le_refl _))
      · exact hn I.free
    · exact hb z
  have sub : ∀ b ∈ frs outer, b ∈ frs (envOfC qual scope s.heap.objs.size f cd :: outer) := fun b hb => by
    unfold frs at hb ⊢
    exact List.mem_cons_of_mem _ hb
  refine wpAny_leaves_madeW (base := PySem.W.hideAll s1.heap (frs (envOfC qual scope s.heap.objs.size f cd :: outer))) (h := s1.heap) I.ok.frames rfl (fun b o q => PySem.W.of_hideAll _ q)
    (PySem.W.funFrames_hide st fun en he b hb => List.mem_filterMap.mpr ⟨en, he, hb⟩) hm fun h2 t fl _ _ up => ?_
  have cov : ∀ b o, s1.heap.get? b = some o → b ∉ frs outer → (s.heap.get? b ≠ none ∨ H1 b ≠ none) → h2.get? b = some o := fun b o q hb hn => fl.1 b o (PySem.W.hideAll_get _ q (nL b hn hb))
  obtain ⟨U, HK⟩ := un_to I.base I.hok cov (fun b o q hb => by
    obtain ⟨_, o', e, nf⟩ := st.mem (sub b hb)
    rw [q] at e; cases e
    exact up b o (hm.keeps b o q) nf) fun b hb => I.stkFree b (sub b hb)
  have ex1 : ∀ b, (s.heap.get? b ≠ none ∨ H1 b ≠ none) → ∃ o, s1.heap.get? b = some o := fun b hn => by
    rcases hn with hn | hn
    · cases q : s.heap.get? b with
      | none => exact absurd q hn
      | some o => exact I.base.there b o q (by intro z; exact nomatch z)
    · cases q : H1 b with
      | none => exact absurd q hn
      | some u => exact ok_there (I.hok b u q)
  refine ⟨ea, C, t, _, H1, rfl, I.os, I.bare, U, HK, fl, fun b o q hb hn => ?_, ?_, ?_, hE⟩
  · obtain ⟨o1, e1⟩ := ex1 b hn
    have e2 := PySem.W.hideAll_get _ e1 (nL b hn hb)
    have e3 := fl.1 b o1 e2
    have e4 : h2.get? b = some o := q
    rw [e3] at e4; cases e4
    exact e2
  · cases q : s.heap.get? ea with
    | none => rfl
    | some o =>
      obtain ⟨o1, e1⟩ := ex1 ea (.inl (by rw [q]; exact (fun z => nomatch z)))
      rw [hm.new] at e1; cases e1
  · cases q : H1 ea with
    | none => rfl
    | some u =>
      obtain ⟨o1, e1⟩ := ex1 ea (.inr (by rw [q]; exact (fun z => nomatch z)))
      rw [hm.new] at e1; cases e1
theorem passes_def : Passes (CXR P w) (cxOf (CXR P w) P w K mg base N qual scope f cd A outer s H E) E := by
  intro pins σ H1 s1 e s2 I h
  obtain ⟨ea, C, t, B, H', rfl, os, bare, un, hok, fl, cov, nea, nH, hE⟩ := h
  have J := I.call' (ch := []) os un hok bare (fun b z => nomatch z)
  have st := J.stack
  have nL : ∀ b, (s.heap.get? b ≠ none ∨ H' b ≠ none) → b ∉ frs outer → b ∉ frs (envOfC qual scope s.heap.objs.size f cd :: outer) := fun b hn hb hf => by
    rcases List.mem_cons.mp (J.stkSub b hf) with z | z
    · subst z
      rcases hn with hn | hn
      · exact hn (Heap.get?_none_of_le (Nat.le_refl _))
      · exact hn J.free
    · exact hb z
  have sub : ∀ b ∈ frs outer, b ∈ frs (envOfC qual scope s.heap.objs.size f cd :: outer) := fun b hb => by
    unfold frs at hb ⊢
    exact List.mem_cons_of_mem _ hb
  have old : ∀ b, s.heap.get? b ≠ none → s1.heap.get? b ≠ none := fun b hn => by
    cases q : s.heap.get? b with
    | none => exact absurd q hn
    | some o =>
      obtain ⟨o', e⟩ := I.base.there b o q (by intro z; exact nomatch z)
      rw [e]; exact (fun z => nomatch z)
  refine wpAny_leaves_onW I.ok.frames rfl fl fun h2 fl2 up => ?_
  have covB : ∀ b o, s2.heap.get? b = some o → b ∉ frs outer → (s.heap.get? b ≠ none ∨ H' b ≠ none) → B.get? b = some o := fun b o q hb hn => cov b o q (nL b hn hb) (hn.imp (old b) id)
  obtain ⟨U, HK⟩ := un_to J.base J.hok (fun b o q hb hn => fl2.1 b o (covB b o q hb hn)) (fun b o q hb => by
    obtain ⟨_, o', e, nf⟩ := st.mem (sub b hb)
    rw [q] at e; cases e
    exact up b o q nf) fun b hb => J.stkFree b (sub b hb)
  refine ⟨ea, C, t, B, H', rfl, J.os, J.bare, U, HK, fl2, fun b o q hb hn => ?_, ?_, nH, hE⟩
  · have ex2 : ∃ o, s2.heap.get? b = some o := by
      rcases hn with hn | hn
      · cases z : s.heap.get? b with
        | none => exact absurd z hn
        | some o => exact J.base.there b o z (by intro z; exact nomatch z)
      · cases z : H' b with
        | none => exact absurd z hn
        | some u => exact ok_there (J.hok b u z)
    obtain ⟨o1, e1⟩ := ex2
    have e2 := covB b o1 e1 hb hn
    have e3 := fl2.1 b o1 e2
    have e4 : h2.get? b = some o := q
    rw [e3] at e4; cases e4
    exact e2
  · cases q : s.heap.get? ea with
    | none => rfl
    | some o => exact absurd nea (old ea (by rw [q]; exact (fun z => nomatch z)))
end
theorem exc_obj {K : PySem.W.Frag} {h : Heap} {C : Addr} {bB : List Value} {nid : String} (X : K.In h) (q : PySem.W.excIn K C bB nid = true) :
    ∃ tl NS nm qn bs hd sn sub ab col dd k0 k1 k2 k3 k5 mN, h.get? C = some (excClassObj nm qn C NS bs tl hd sn sub ab col dd k0 k1 k2 k3 k5 nid) ∧ h.Ns NS mN ∧ mN "__init__" = none ∧ OwnTail h bB tl := by
  unfold PySem.W.excIn at q
  split at q
  · rename_i d0 c0 sl0 look
    split at q
    · rename_i C1 tl a0 a1 a2 a3 n0 a5 em es
      simp only [Bool.and_eq_true, beq_iff_eq, Bool.not_eq_true'] at q
      obtain ⟨⟨⟨⟨⟨z1, z2⟩, z3⟩, z4⟩, z5⟩, z6⟩ := q
      subst z1 z2
      obtain ⟨nm, bs, mro, NS, qn, hd, sn, sub, ab, col, del⟩ := c0
      dsimp only at em z3 z5 z6
      subst em z3
      have es' : sl0 = #[a0, a1, a2, a3, some (.builtin n0), a5] := by
        cases sl0 with
        | mk l =>
          have es2 : l = [a0, a1, a2, a3, some (.builtin n0), a5] := es
          rw [es2]
      subst es'
      refine ⟨tl, NS, nm, qn, bs, hd, sn, sub, ab, col, d0, a0, a1, a2, a3, a5, h.nsMap NS, X _ _ look, ?_, ?_, PySem.W.tail_of_in X z4⟩
      · exact Heap.Ns.of_isNs (PySem.W.isNs_of_in X z5)
      · exact PySem.W.nsMap_none_of_in X z5 z6
    · exact nomatch q
  · exact nomatch q
def tRaise (C : Addr) (E : XK) (t : TA) : TS := fun _ σ H => t σ H fun vs H1 => vs.length ≤ sizeLine ∧ E (.ref C) none H1
section
variable {X : Cx} {E : XK} {C : Addr} {x : Str} {e : Expr} {es : List Expr} {t : TA} {np cpos pos : Pos}
theorem ps_raise (hE : RaisesTo X E) (hc : X.calm = true) (hm : X.mg x = some (.ref C))
    (q : PySem.W.excIn X.K C [.type "ValueError", .type "Exception", .type "BaseException", .type "object"] "ValueError.__new__" = true) (ha : PA X (e :: es) t)
    (hg : Gl X x := by rfl) (hdb : (x == ("__debug__" : Str)) = false := by decide)
    (he : starEach (e :: es) X.env = (false, eval e X.env) :: starEach es X.env := by rfl) (hpl : (backTo cpos (starEach es X.env)).any (·.1) = false := by rfl) :
    PS X (.Raise (some (.Call (.Name x np) (e :: es) [] cpos)) none pos) (tRaise C E t) := by
  intro pins s σ H D I h
  obtain ⟨tl, NS, nm, qn, bs, hd, sn, sub, ab, col, dd, k0, k1, k2, k3, k5, mN, hC, hN, hni, T⟩ := exc_obj I.ok.mod.kin q
  refine wpAny_Raise_call_subU (C := C) (nm := nm) (q := qn) (N := NS) (bs := bs) (bm := tl) (hdct := hd) (sn := sn) (sub := sub) (ab := ab) (col := col) (dd := dd)
    (k0 := k0) (k1 := k1) (k2 := k2) (k3 := k3) (k5 := k5) F.excBase_ValueError (by decide) F.excBase_ValueError (mN := mN) (T.hasType F.excBase_ValueError.hasBase) (I.ok.hd hc)
    (by rw [he]; show (false || (backTo cpos (starEach es X.env)).any (·.1)) = false; rw [hpl]; rfl) hni (ld_glob I hg hm ⟨rfl, ?_⟩ hdb)
  have h0 := ha cpos pins s σ H _ I h
  rw [he] at h0 ⊢
  refine Calls.evalArgs_plain (thn h0 fun us s1 z => ?_)
  obtain ⟨vs, H1, I1, r, zl, zE⟩ := z
  exact ⟨rfl, by rw [← r.length]; exact zl, I1.bk _ _ hC, hN.keeps I1.bk, T.keeps I1.bk, fun h' ea hm' => hE pins σ H1 s1 h' ea _ us I1 hm' zE⟩
end
theorem okX {P : Program} {w : World} {K : PySem.W.Frag} {mg : Str → Option Value} {base : Heap} {x qual : Str} {st : Stmt} {f : Addr} {fd : FuncData} {N ps : List Str} {k : Nat} {sp : Sp} (F : Fun K x qual st f fd) (S : FnScope N ps (defScope st)) (len : ∀ vs H Q E, sp vs H Q E → vs.length = ps.length)
    (hbody : ∀ (cdv : Value) (A : Around) (outer : List Env) (s : Shared) (H : Hp) (vs : List V) (Q : VK) (E : XK), Room k (A.deeper (envOfC qual (defScope st) s.heap.objs.size f cdv)) → sp vs H Q E →
      ∃ t, PSs (cxOf (CXR P w) P w K mg base N qual (defScope st) f cdv A outer s H E) (defBody st) t ∧ t { nx := fun _ H' => Q .non H', rt := Q } (start N vs) H) : FnOk P w K mg base (CXR P w) (k + 1) f fd ps sp := by
  obtain ⟨oc, od, kV, doc, pm, an, cdv, ct, osl, rfl, lk, hcd⟩ := F.ex
  exact fn_of lk hcd S len fun A outer s H vs Q E hr hsp => hbody cdv A outer s H vs Q E hr hsp
def XPost (X : Cx) (pins : List (Addr × Obj)) (σ : L2.St) (E : XK) (e : Value) (s' : Shared) : Prop := ∃ H1 s1, Inv X pins σ H1 s1 ∧ CXR X.prog X.w X.stack H1 s1 E e s'
def PEX (X : Cx) (e : Expr) (t : L2.St → Hp → VK → XK → Prop) : Prop :=
  ∀ (pins : List (Addr × Obj)) (s : Shared) (σ : L2.St) (H : Hp) (Q : VK) (E : XK), Inv X pins σ H s → t σ H Q E → wpAny (model X.prog X.w) X.A (eval e X.env) (EP X pins σ Q) (XPost X pins σ E) s
section
variable {X : Cx} {k n : Nat} {x : Str} {ps : List Str} {sp : Sp} {p pos : Pos} {e : Expr} {es : List Expr} {t : TA}
theorem pex_cal (C : Cal X.prog X.w X.K X.mg X.base (CXR X.prog X.w) k x ps sp) (hr : Room n X.A) (ha : PA X.nox (e :: es) t) (hn : k ≤ n := by decide) (hg : Gl X x := by rfl) (hdb : (x == ("__debug__" : Str)) = false := by decide)
    (he : starEach (e :: es) X.env = (false, eval e X.env) :: starEach es X.env := by rfl) (hpl : (backTo pos (starEach es X.env)).any (·.1) = false := by rfl) :
    PEX X (.Call (.Name x p) (e :: es) [] pos) (fun σ H Q E => t σ H fun vs H1 => sp vs H1 Q E) := by
  intro pins s σ H Q E I h
  obtain ⟨f, fd, F, b, kp, m⟩ := C.ex
  refine wpAny_Call_Name_kw (ld_glob I hg m ?_ hdb)
  refine PySem.W.callWith_K (h₀ := X.base) I.ok.mod.kin kp (wpAny_mono (ha pos pins s σ H _ (I.wish _) h) (fun us s1 z => ?_) fun _ _ z => False.elim z) he hpl
  obtain ⟨vs, H1, I1, r, q⟩ := z
  have J : Inv X pins σ H1 s1 := I1.unwish
  refine ⟨J.kIn, ?_⟩
  have hl : us.length = ps.length := by rw [← r.length]; exact F.len _ _ _ _ q
  have hb : BindsTo s1 fd ⟨us, []⟩ (ps.zip us) := by
    have := b s1 us J.kIn (by rw [List.append_nil]; exact hl)
    rwa [List.append_nil] at this
  refine wpAny_call (codeAny_mono (F.run X.A X.stack s1 H1 ⟨us, []⟩ us vs Q E (hr.mono hn) J.env0 hb r q) fun res s' hq => ?_)
  cases res with
  | error e' => exact ⟨H1, s1, J, hq⟩
  | ok fl =>
    cases fl with
    | ret u => exact J.after hq
    | next => exact False.elim hq
    | brk => exact False.elim hq
    | cont => exact False.elim hq
end
def excO (ea : Addr) (C : Value) : HO := .ext fun h => ∃ o, h.get? ea = some o ∧ o.cls = C
abbrev Cx.inH (X : Cx) (ea : Addr) (xe : Value → Shared → Prop) : Cx := { X with A := X.A.mark (some (.ref ea)), calm := false, xe := xe }
theorem ok_inH {X : Cx} {ea : Addr} {xe : Value → Shared → Prop} (ok : X.Ok) : (Cx.inH X ea xe).Ok :=
  ⟨ok.mod, ok.kind, ok.glob, ok.blt, ok.above, ok.inj, ok.has, ok.cab, (fun z => nomatch z), ok.frames, ok.stk, ok.exf, ok.bs, ok.bsz, ok.noex, ok.exfs, ok.funs, ok.frf⟩
theorem ok_outH {X : Cx} {ea : Addr} {xe : Value → Shared → Prop} (hd : X.calm = true → X.A.handled = none) (ok : (Cx.inH X ea xe).Ok) : X.Ok :=
  ⟨ok.mod, ok.kind, ok.glob, ok.blt, ok.above, ok.inj, ok.has, ok.cab, hd, ok.frames, ok.stk, ok.exf, ok.bs, ok.bsz, ok.noex, ok.exfs, ok.funs, ok.frf⟩
section
variable {X : Cx} {pins : List (Addr × Obj)} {σ : L2.St} {H : Hp} {s : Shared} {ea : Addr} {xe : Value → Shared → Prop}
theorem Inv.inH (I : Inv X pins σ H s) : Inv (Cx.inH X ea xe) pins σ H s := ⟨ok_inH I.ok, I.os, I.bare, I.base, I.loc, I.cell, I.free, I.freeC, I.pin, I.hok, I.len⟩
theorem Inv.outH (hd : X.calm = true → X.A.handled = none) (I : Inv (Cx.inH X ea xe) pins σ H s) : Inv X pins σ H s := ⟨ok_outH hd I.ok, I.os, I.bare, I.base, I.loc, I.cell, I.free, I.freeC, I.pin, I.hok, I.len⟩
end
structure CatchK (K : PySem.W.Frag) (C B : Addr) : Prop where
  tyB : PySem.W.typeIn K (.ref B) = some (.type "type")
  clB : (PySem.W.clsIn K B).isSome = true
  exB : PySem.W.subIn K (.ref B) (.type "BaseException") = some true
  sub : PySem.W.subIn K (.ref C) (.ref B) = some true
theorem looks_isType {K : PySem.W.Frag} {M : Model} {h : Heap} {B : Addr} (X : K.In h) (c : (PySem.W.clsIn K B).isSome = true) : PySem.W.Looks M h (isType (.ref B)) true := by
  unfold PySem.W.clsIn at c
  split at c
  · rename_i look
    intro A' Q' E' s' k q
    unfold isType loadHead
    refine wpAny_bind ?_
    exact wpAny_loadPart (k _ _ (X _ _ look)) (wpAny_pure q)
  · exact nomatch c
end L3
namespace L3
open PySem PySem.Spec PyProof.Rows L2
theorem track {P : Program} {w : World} {fs : List Addr} {H H' : Hp} {h0 h : Heap} {ea : Addr} {φ : Heap → Prop} (u : Un fs [] H H' h0 h) (k : HOk P w H' h) (n : H' ea = none) (n0 : h0.get? ea = none)
    (hφ : φ h) (he : ∃ o, h.get? ea = some o) (st : ∀ h1 h2 : Heap, φ h1 → (∀ o, h1.get? ea = some o → h2.get? ea = some o) → φ h2) : Un fs [] H (upd H' ea (.ext φ)) h0 h ∧ HOk P w (upd H' ea (.ext φ)) h := by
  have ne : ∀ {b : Addr} {o : HO}, H' b = some o → b ≠ ea := fun {b o} e => ne_of_none e n
  refine ⟨⟨u.keep, u.slot, fun b o q z hx => ?_, u.there, fun b xs q => ?_, fun b o x q => ?_, fun b ps q => ?_⟩, fun a o e => ?_⟩
  · have hb : b ≠ ea := fun z => by subst z; rw [q] at n0; cases n0
    rw [upd_ne hb]; exact u.free b o q z hx
  · have e := u.tups b xs q
    rw [upd_ne (ne e)]; exact e
  · have e := u.frzs b o x q
    rw [upd_ne (ne e)]; exact e
  · obtain ⟨more, e⟩ := u.tbls b ps q
    exact ⟨more, by rw [upd_ne (ne e)]; exact e⟩
  · by_cases ha : a = ea
    · subst ha
      rw [upd_same] at e; cases e
      exact ⟨hφ, he, st⟩
    · rw [upd_ne ha] at e
      exact (k a o e).stay (fun _ _ _ q => q) (fun b q => by rw [upd_ne (ne q)]; exact q) fun b xs q => by rw [upd_ne (ne q)]; exact q
section
variable {X : Cx} {pins : List (Addr × Obj)} {σ : L2.St} {H : Hp} {s : Shared}
theorem inv_drop {m : Str → Option Value} {n : Str} {j : Nat} {v : Option Value} {h' : Heap} {tk : Nat} (I : Inv X pins σ H s) (hN : X.N.Nodup) (hj : X.N[j]? = some n)
    (hm : ∀ (i : Nat) (y : Str) (v : V), X.N[i]? = some y → σ[i]? = some (some v) → Vis X.env.scope y → ∃ u, RelV v u ∧ Look X.env s.heap m y u)
    (hn : s.heap.Ns X.env.locals m) (hn' : h'.Ns X.env.locals (fun y => if y = n then v else m y)) (hs : Heap.SameBut X.env.locals s.heap h') : Inv X pins (σ.set j none) H { s with heap := h', toks := tk } := by
  have cne := I.cne
  have old : ∀ b o, X.s₀.heap.get? b = some o → b ≠ X.env.locals := fun b o e => Nat.ne_of_lt (Nat.lt_of_lt_of_le (Heap.lt_size e) I.ok.above)
  refine ⟨I.ok, I.os, I.bare, ⟨fun b o e z hb hx => ?_, fun b o e z hb hx => ?_, I.base.free, fun b o e hx => ?_, I.base.tups, I.base.frzs, I.base.tbls⟩, ⟨_, hn', fun i y v' e1 e2 e3 => ?_⟩, fun y c e => ?_, I.free, I.freeC, fun p hp => ?_, fun b ob e => ?_, ?_⟩
  · exact (hs.2 b (old b o e)).trans (I.base.keep b o e z hb hx)
  · obtain ⟨sl, e1⟩ := I.base.slot b o e z hb hx
    exact ⟨sl, (hs.2 b (old b o e)).trans e1⟩
  · obtain ⟨o', e1⟩ := I.base.there b o e hx
    exact ⟨o', (hs.2 b (old b o e)).trans e1⟩
  · by_cases hi : i = j
    · subst hi
      have hl : i < σ.length := by rw [I.len]; exact (List.getElem?_eq_some_iff.mp hj).1
      rw [List.getElem?_set_self hl] at e2
      cases e2
    · rw [List.getElem?_set_ne (Ne.symm hi)] at e2
      obtain ⟨u, r, q⟩ := hm i y v' e1 e2 e3
      refine ⟨u, r, ?_⟩
      rcases q with ⟨k, e⟩ | ⟨k, c, e, z⟩
      · have ny : y ≠ n := fun z => hi (nodup_ix hN e1 (z ▸ hj))
        exact .inl ⟨k, by show (if y = n then v else m y) = some u; rw [if_neg ny]; exact e⟩
      · exact .inr ⟨k, c, e, z.sameBut hs (cne y c e)⟩
  · obtain ⟨w', z⟩ := I.cell y c e
    exact ⟨w', z.sameBut hs (cne y c e)⟩
  · obtain ⟨e, z, ne, nf, d⟩ := I.pin p hp
    exact ⟨(hs.2 p.1 ne).trans e, z, ne, nf, d⟩
  · refine (I.hok b ob e).stay (fun c w' hc q => (hs.2 c ?_).trans q) (fun _ q => q) fun _ _ q => q
    intro z
    subst z
    rcases hc with hc | hc
    · rw [← hc, I.free] at e; cases e
    · rw [I.free] at hc; cases hc
  · rw [List.length_set]; exact I.len
end
theorem looks_matches {K : PySem.W.Frag} {M : Model} {h : Heap} {ea C B : Addr} {oe : Obj} (X : K.In h) (he : h.get? ea = some oe) (hc : oe.cls = .ref C) (c : CatchK K C B) :
    PySem.W.Looks M h (excMatches (.ref ea) (.ref B)) true := by
  have L1 : PySem.W.Looks M h (isInstance (.ref B) (.type "tuple")) false := (PySem.W.looks_typeIn X c.tyB).andThen (PySem.W.Looks.of_pure tc_notTuple)
  have L2 : PySem.W.Looks M h (isExcClass (.ref B)) true := (looks_isType X c.clB).andThen (PySem.W.looks_subIn X c.exB)
  have L3 : PySem.W.Looks M h (typeOf (.ref ea)) (.ref C) := hc ▸ (PySem.W.Looks.ld he).andThen .now
  have L4 : PySem.W.Looks M h (isSubtype (.ref C) (.ref B)) true := PySem.W.looks_subIn X c.sub
  intro A Q E s k q
  unfold excMatches
  refine wpAny_bind (L1 A _ E s k ?_)
  simp only [Bool.false_eq_true, if_false]
  refine wpAny_bind (wpAny_pure ?_)
  simp only [List.forIn_cons, List.forIn_nil]
  refine wpAny_bind (wpAny_bind (wpAny_bind (L2 A _ E s k ?_)))
  simp only [Bool.not_true, Bool.false_eq_true, if_false]
  refine wpAny_pure ?_
  refine wpAny_pure ?_
  refine wpAny_bind (L3 A _ E s k ?_)
  refine wpAny_bind (wpAny_bind (wpAny_bind (L4 A _ E s k ?_)))
  simp only [if_true]
  refine wpAny_pure ?_
  refine wpAny_pure ?_
  exact wpAny_pure q
def tTryE (K : PySem.W.Frag) (te : L2.St → Hp → VK → XK → Prop) (B : Addr) (j : Nat) (ts : TS) : TS := fun D σ H =>
  te σ H (fun _ H1 => D.nx σ H1) fun C _ H' => ∃ c, C = .ref c ∧ CatchK K c B ∧
    ∀ ea, H' ea = none → ts { nx := fun σ' H2 => D.nx (σ'.set j none) H2, rt := fun _ _ => False } (σ.set j (some (.ref ea))) (upd H' ea (excO ea (.ref c)))
section
variable {X : Cx} {e : Expr} {te : L2.St → Hp → VK → XK → Prop} {B : Addr} {j : Nat} {ts : TS} {x n : Str} {b0 : Stmt} {suite : List Stmt} {p1 np hp pos : Pos}
theorem caught_ok {pins : List (Addr × Obj)} {σ : L2.St} {E : XK} {D : Ends} {ev : Value} {s1 : Shared} (hs : ∀ ea xe, PSs (Cx.inH X ea xe) (b0 :: suite) ts) (hN : X.N.Nodup) (hj : X.N[j]? = some n) (hl : X.env.kindOf n = some .local)
    (hg : Gl X x) (hm : X.mg x = some (.ref B)) (hst : X.stack = X.env :: X.outer) (hfr : X.env.frame = some X.env.locals) (hdb : (x == ("__debug__" : Str)) = false)
    (hE : ∀ C H', E C none H' → ∃ c, C = .ref c ∧ CatchK X.K c B ∧ ∀ ea, H' ea = none → ts { nx := fun σ' H2 => D.nx (σ'.set j none) H2, rt := fun _ _ => False } (σ.set j (some (.ref ea))) (upd H' ea (excO ea (.ref c))))
    (z : XPost X pins σ E ev s1) :
    wpAny (model X.prog X.w) X.A (noteFrame ev X.env) (fun _ s2 => wpAny (model X.prog X.w) X.A (setFlight ev none) (fun _ s3 =>
      wpAny (model X.prog X.w) X.A (handleBy ev X.env [.ExceptHandler (some (.Name x np)) (some n) (b0 :: suite) hp]) (SP X pins D) X.xe s3) X.xe s2) X.xe s1 := by
  obtain ⟨H1, s0, I1, ea, C, t, B', H', rfl, os, bare, un, hok, fl, cov, nea, nH, hq⟩ := z
  obtain ⟨c, rfl, ck, hq⟩ := hE _ _ hq
  have J : Inv X pins σ H' s1 := I1.call' (ch := []) os un hok bare (fun b z => nomatch z)
  have stk := J.stack
  have at_ : ∀ h', Heap.FlyingW B' X.stack ea (.ref c) (.ref t) h' → s1.heap.UpToSlots h' → Inv X pins σ (upd H' ea (excO ea (.ref c))) { s1 with heap := h' } := fun h' fl' up => by
    obtain ⟨U, HK⟩ := un_to un hok (fun b o q hb hn => fl'.1 b o (cov b o q hb hn)) (fun b o q hb => by
      obtain ⟨_, o', e', nf⟩ := stk.mem hb
      rw [q] at e'; cases e'
      exact up b o q nf) fun b hb => J.stkFree b hb
    obtain ⟨ob, hob, hobc⟩ := fl'.there
    obtain ⟨U2, HK2⟩ := track (φ := fun h => ∃ o, h.get? ea = some o ∧ o.cls = .ref c) U HK nH nea ⟨ob, hob, hobc⟩ ⟨ob, hob⟩ fun h1 h2 ⟨o, e1, e2⟩ k => ⟨o, k o e1, e2⟩
    exact I1.call' (s' := { s1 with heap := h' }) (ch := []) os U2 HK2 bare (fun b z => nomatch z)
  have fl1 := fl
  rw [hst] at fl1
  refine wpAny_looks_onW (J.ok.frames.trans (by rw [hst])) hfr fl1 fun h4 held up4 => ?_
  refine wpAny_landsW held fun h5 fl5 up5 => ?_
  rw [← hst] at fl5
  have J5 := at_ h5 fl5 (up4.trans up5)
  obtain ⟨ob5, hob5, hobc5⟩ := fl5.there
  refine wpAny_handleBy_cons (codeAny_handlers_test (ld_glob (X := Cx.inH X ea fun _ _ => False) (Inv.inH J5) hg hm ?_ hdb)) ((fun q => nomatch q))
  refine looks_matches (M := model X.prog X.w) (h := h5) J5.kIn hob5 hobc5 ck _ _ _ _ (fun _ _ q => q) ?_
  simp only [if_true]
  refine codeAny_handlers_suite_as ?_
  refine lands_againW fl5 fun h6 fl6 up6 => ?_
  have J6 := at_ h6 fl6 ((up4.trans up5).trans up6)
  refine store_ok (X := Cx.inH X ea fun _ _ => False) (v := .ref ea) (Inv.inH J6) hN hj (Or.inl hl) rfl (fun s7 I7 => ?_) (Or.inr hl)
  have I7' : Inv X pins (σ.set j (some (.ref ea))) (upd H' ea (excO ea (.ref c))) s7 := Inv.outH J6.ok.hd I7
  refine thn (hs ea _ pins s7 _ _ _ (Inv.inH I7') (hq ea nH)) fun f s8 q8 => ?_
  cases f with
  | next =>
    obtain ⟨σ8, H8, I8, n8⟩ := q8
    have I8' : Inv X pins σ8 H8 s8 := Inv.outH J6.ok.hd I8
    obtain ⟨m, hn, hl8⟩ := I8'.loc
    have hk : (X.env.scope.kind == .class || (X.env.scope.kind == .module && X.env.locals != X.env.globals)) = false := by rw [I8'.ok.kind]; rfl
    refine wpAny_nameGoes_keeps hl hn hk fun h9 v hn9 sb9 => ?_
    exact ⟨_, H8, inv_drop I8' hN hj hl8 hn hn9 sb9, n8⟩
  | ret u => obtain ⟨_, _, _, _, _, z⟩ := q8; exact False.elim z
  | brk => obtain ⟨_, _, _, z⟩ := q8; exact False.elim z
  | cont => obtain ⟨_, _, _, z⟩ := q8; exact False.elim z
theorem ps_tryE (he : PEX X e te) (hs : ∀ ea xe, PSs (Cx.inH X ea xe) (b0 :: suite) ts) (hN : X.N.Nodup) (hj : X.N[j]? = some n) (hl : X.env.kindOf n = some .local)
    (hm : X.mg x = some (.ref B)) (hst : X.stack = X.env :: X.outer) (hfr : X.env.frame = some X.env.locals) (hg : Gl X x := by rfl) (hdb : (x == ("__debug__" : Str)) = false := by decide) (hsw : swapsWith e none p1.line X.env = pure false := by rfl) :
    PS X (.Try [.Expr e p1] [.ExceptHandler (some (.Name x np)) (some n) (b0 :: suite) hp] [] [] pos) (tTryE X.K te B j ts) := by
  intro pins s σ H D I h
  refine wpAny_Try_except (wpAny_execs_cons (wpAny_Expr_any (wpAny_mono (he pins s σ H _ _ I h) (fun v s1 z => ?_) fun v s1 z => ?_) I.quiet hsw))
  · obtain ⟨y, H1, I1, r1, q1⟩ := z
    exact wpAny_execs_nil (wpAny_execs_nil ⟨σ, H1, I1, q1⟩)
  · exact caught_ok hs hN hj hl hg hm hst hfr hdb (fun C H' q => q) z
end
structure ExcK (K : PySem.W.Frag) (C : Addr) : Prop where
  cl : (PySem.W.clsIn K C).isSome = true
  ga : PySem.W.findIn K (.ref C) "__getattribute__" = some (some (.builtin "BaseException.__getattribute__"))
  no : PySem.W.findIn K (.ref C) "__getattr__" = some none
  ca : PySem.W.findIn K (.ref C) "__class__" = some (some (.builtin "object.__class__"))
  ob : PySem.W.subIn K (.ref C) (.type "object") = some true
  be : PySem.W.subIn K (.ref C) (.type "BaseException") = some true
end L3
namespace L3
open PySem PySem.Spec PySem.Calls PySem.Builtin PySem.Builtin.Getset_descriptor PyProof.Rows L2
section
variable {prog : Program} {w : World} {A : Around} {E : Value → Shared → Prop} {h : Heap} {g : Array GenState} {d : Drawn} {t : Nat} {os : OsState} {a C : Addr} {o : Obj} {K : PySem.W.Frag}
theorem xk_ty (hx : h.get? a = some o) (hc : o.cls = .ref C) (M : Model) : PySem.W.Looks M h (typeOf (.ref a)) (.ref C) := hc ▸ (PySem.W.Looks.ld hx).andThen .now
theorem xk_get {R : Result → Shared → Prop} {tp : Value} (X : K.In h) (x : ExcK K C) (hx : h.get? a = some o) (hc : o.cls = .ref C) (hq : R (.ok (.ret (.ref C))) ⟨h, g, d, t, os⟩) :
    codeAny (model prog w) A (.call (.builtin "getset_descriptor.__get__") ⟨[.builtin "object.__class__", .ref a, tp], []⟩) R ⟨h, g, d, t, os⟩ := by
  have L0 := xk_ty hx hc (model prog w)
  have L1 := PySem.W.looks_subIn (M := model prog w) X x.ob
  refine codeAny_call_builtin PySem.W.KF.slot_gs.plain PySem.W.KF.entry_gs (PySem.W.KF.slot_gs.check _ _ _ _ _ _ _ _ PySem.W.KF.type_class (PySem.W.KF.args_gs _ _ _) ?_)
  unfold Builtin.«getset_descriptor.__get__»; unfold descrGet
  rw [PySem.W.dga_obj]
  refine wpAny_bind (wpAny_pure ?_)
  unfold descrGetter descrCheckInstance; unfold descrNameAndClass isInstance
  simp only [PySem.W.KF.owner_class]
  repeat lk
  refine ⟨Code.quiet_builtin _ (by decide +kernel), codeAny_builtin PySem.W.KF.entry_class ?_⟩
  unfold Builtin.«object.__class__»; unfold shownTypeOf
  repeat lk
  exact hq
theorem xk_entry {tk : Tok} {Q : Fin → Shared → Prop} (X : K.In h) (x : ExcK K C) (hx : h.get? a = some o) (hc : o.cls = .ref C) (hq : Q (.done (.ret (.ref C))) ⟨h, g, d, t, os⟩) :
    wpAny (model prog w) A (Builtin.«object.__getattribute__» ⟨[.ref a, .str "__class__" tk], []⟩) Q E ⟨h, g, d, t, os⟩ := by
  have L0 := xk_ty hx hc (model prog w)
  have L1 := PySem.W.looks_findIn (M := model prog w) X x.ca
  have f5 := F.typeOf_object_class
  have f6 := F.slot_gs_get.lookup
  have f7 := F.slot_gs_set.lookup
  repeat (any_goals (first | assumption | with_reducible refine PySem.W.Looks.at L0 ?_ | with_reducible refine PySem.W.Looks.at L1 ?_ | (with_reducible refine wpAny_loadPart_at hx ?_; rw [hc]) | wp_step))
  refine xk_get X x hx hc ?_
  repeat (any_goals (first | assumption | wp_step))
theorem xk_check {M : Model} {nameV : Value} {Q : Unit → Shared → Prop} (X : K.In h) (x : ExcK K C) (hx : h.get? a = some o) (hc : o.cls = .ref C) (hq : Q () ⟨h, g, d, t, os⟩) :
    wpAny M A (checkBuiltinCall "BaseException.__getattribute__" ⟨[.ref a, nameV], []⟩) Q E ⟨h, g, d, t, os⟩ := by
  have k1 : builtinKind "BaseException.__getattribute__" = some .slot := by decide +kernel
  have k2 : splitId "BaseException.__getattribute__" = some ("BaseException", "__getattribute__") := by decide +kernel
  have L : PySem.W.Looks M h (isInstance (.ref a) (.type "BaseException")) true := (xk_ty hx hc M).andThen (PySem.W.looks_subIn X x.be)
  have ha := F.args_bexc_ga (.ref a) nameV
  simp only [checkBuiltinCall, k1, k2]
  refine wpAny_bind (L.at ?_)
  repeat (any_goals (first | assumption | wp_step))
theorem xk_by {tk : Tok} {Q : Value → Shared → Prop} (X : K.In h) (x : ExcK K C) (hx : h.get? a = some o) (hc : o.cls = .ref C) (hq : Q (.ref C) ⟨h, g, d, t, os⟩) :
    wpAny (model prog w) A (getAttrBy (.ref a) (.str "__class__" tk) false false) Q E ⟨h, g, d, t, os⟩ := by
  have L0 := xk_ty hx hc (model prog w)
  have L1 := PySem.W.looks_findIn (M := model prog w) X x.ga
  have L2 := PySem.W.looks_findIn (M := model prog w) X x.no
  have f3 := F.attr_ValueError.ga.bind (.ref a)
  have z0 : (false && onTheHeap (Value.builtin "BaseException.__getattribute__")) = false := rfl
  have z2 : (Value.builtin "BaseException.__getattribute__" == Value.builtin "object.__getattribute__") = false := by decide +kernel
  have z1 : (onTheHeap (Value.ref C) && Value.builtin "BaseException.__getattribute__" == Value.builtin "object.__getattribute__") = false := by rw [z2]; rfl
  repeat (any_goals (first | assumption | with_reducible refine PySem.W.Looks.at L0 ?_ | with_reducible refine PySem.W.Looks.at L1 ?_ | with_reducible refine PySem.W.Looks.at L2 ?_ | wp_step))
  refine codeAny_call_builtin F.attr_ValueError.ga.plain F.entry_bexc_ga (xk_check X x hx hc (xk_entry X x hx hc ?_))
  repeat (any_goals (first | assumption | wp_step))
theorem xk_attr {Q : Option Value → Shared → Prop} (X : K.In h) (x : ExcK K C) (hx : h.get? a = some o) (hc : o.cls = .ref C) (hq : Q (some (.ref C)) ⟨h, g, d, t + 1, os⟩) :
    wpAny (model prog w) A (getAttr? (.ref a) "__class__") Q E ⟨h, g, d, t, os⟩ := by
  unfold getAttr?; unfold getAttrBy?
  repeat (any_goals (first | assumption | with_reducible apply xk_by X x hx hc | wp_step))
end
theorem kitx_exc {K : PySem.W.Frag} {a C : Addr} (x : ExcK K C) : PySem.W.KitX K (.ref a) (.ref C) (fun h => ∃ o, h.get? a = some o ∧ o.cls = .ref C) where
  ty := fun M h _ p => by
    obtain ⟨o, h1, h2⟩ := p
    exact xk_ty h1 h2 M
  it := fun _ _ X _ => looks_isType X x.cl
  ne := fun h tp dd its n sl X htp => by
    refine Bool.eq_false_iff.mpr fun q => ?_
    have e : C = tp := Value.ref.inj (beq_iff_eq.mp q)
    subst e
    have c := x.cl
    unfold PySem.W.clsIn at c
    split at c
    · rename_i look
      have z := (X _ _ look).symm.trans htp
      cases z
    · exact nomatch c
  ca := fun {_ _ _ _ _ s} X p k => by
    obtain ⟨hh, g, d, t, os⟩ := s
    obtain ⟨o, h1, h2⟩ := p
    exact xk_attr X x h1 h2 k
inductive TyE (K : PySem.W.Frag) (H : Hp) : V → Value → Prop where
  | of {x : V} {t : Value} : TyX K H x t → TyE K H x t
  | exc {a C : Addr} : ExcK K C → H a = some (excO a (.ref C)) → TyE K H (.ref a) (.ref C)
section
variable {X : Cx} {pins : List (Addr × Obj)} {σ : L2.St} {H : Hp} {s : Shared}
theorem TyE.kit {x : V} {u t : Value} (I : Inv X pins σ H s) (rx : RelV x u) (ty : TyE X.K H x t) : u ≠ .builtin "__main__.__loader__#opaque" ∧ ∃ HP : Heap → Prop, PySem.W.KitX X.K u t HP ∧ HP s.heap := by
  cases ty with
  | of h => exact TyX.kit I rx h
  | @exc a C xk e =>
    cases (show u = Value.ref a from rx)
    obtain ⟨p, _, _⟩ := I.hok a _ e
    exact ⟨fun z => (nomatch z), _, kitx_exc xk, p⟩
end
theorem vals_cls : ∀ {cs : List V} {us : List Value}, Vals cs us → (∀ c ∈ cs, isCls c = true) → us = cs.map vOf
  | _, _, .nil, _ => rfl
  | _, _, .cons r t, h => by
    rw [List.map_cons, ← vals_cls t (fun c m => h c (.tail _ m)), vOf_of (h _ (.head _)) r]
section
variable {X : Cx}
theorem call_isE : CallR X (.builtin "isinstance") (fun xs H Q => ∃ x c t b, xs = [x, c] ∧ TyE X.K H x t ∧ isCls c = true ∧ PySem.W.kitOne X.K t (vOf c) = some b ∧ Q (.bl b) H) := by
  intro pins s σ H xs us Q I r h
  obtain ⟨x, c, t, b, rfl, ty, hc, hk, q⟩ := h
  cases r with
  | cons r1 r2 =>
    cases r2 with
    | cons r2 r3 =>
      cases r3
      cases vOf_of hc r2
      obtain ⟨hne, HP, kx, hp⟩ := TyE.kit I r1 ty
      exact PySem.W.kia_one kx I.kIn hp hk hne fun tk => ⟨.bl b, H, I.tok tk, rfl, q⟩
theorem call_isT : CallR X (.builtin "isinstance") (fun xs H Q => ∃ x p cs t b, xs = [x, .ref p] ∧ H p = some (.tup cs) ∧ TyE X.K H x t ∧ (∀ c ∈ cs, isCls c = true) ∧ PySem.W.kitAny X.K t (cs.map vOf) = some b ∧ Q (.bl b) H) := by
  intro pins s σ H xs us Q I r h
  obtain ⟨x, p, cs, t, b, rfl, hp, ty, hc, hk, q⟩ := h
  cases r with
  | cons r1 r2 =>
    cases r2 with
    | cons r2 r3 =>
      cases r3
      cases r2
      obtain ⟨hne, HP, kx, hpp⟩ := TyE.kit I r1 ty
      obtain ⟨_, its, rv, o, ho, hcl, n, hd⟩ := I.hok p _ hp
      have ei : its = cs.map vOf := vals_cls rv hc
      subst ei
      obtain ⟨cls, dd, data, sl⟩ := o
      dsimp only at hcl hd
      subst hcl hd
      exact PySem.W.kia_tup kx I.kIn hpp ho hk hne fun tk => ⟨.bl b, H, I.tok tk, rfl, q⟩
end
end L3
namespace L3
open PySem PySem.Spec PyProof.Rows L2
structure HasDef (K : PySem.W.Frag) (x : Str) (st : Stmt) : Prop where
  ex : ∃ (f : Addr) (fd : FuncData), Fun K x x st f fd ∧ PySem.W.nsIn K mainGlobals x = some (some (.ref f))
theorem hasDef_mk {K : PySem.W.Frag} {x : Str} {st : Stmt} {f : Addr} {oc : Value} {od an : Option Addr} {osl : Array (Option Value)} {kV doc pm cdv ct : Value} (a : PySem.W.nsIn K mainGlobals x = some (some (.ref f)))
    (l : K.lookup f = some ⟨oc, od, .func (PySem.W.fnOf x x (defArgs st) (defBody st) (defScope st) .none kV doc pm an cdv ct), osl⟩) (c : PySem.W.codeIn K cdv x = true) (k : PySem.W.keepIn K (.ref f) = true) : HasDef K x st :=
  ⟨f, _, fun_mk l c k, a⟩
theorem cal_of {P : Program} {w : World} {K : PySem.W.Frag} {mg : Str → Option Value} {base h : Heap} {CX : CXT} {k : Nat} {x : Str} {st : Stmt} {ps : List Str} {sp : Sp} (X : K.In h) (G : h.Ns mainGlobals mg) (D : HasDef K x st)
    (hb : ∀ (kV doc pm : Value) (an : Option Addr) (cdv ct : Value) (us : List Value), us.length = ps.length → bindArgs (PySem.W.fnOf x x (defArgs st) (defBody st) (defScope st) .none kV doc pm an cdv ct) ⟨us, []⟩ = pure (ps.zip us))
    (ok : ∀ (f : Addr) (fd : FuncData), Fun K x x st f fd → FnOk P w K mg base CX k f fd ps sp) : Cal P w K mg base CX k x ps sp := by
  obtain ⟨f, fd, F, a⟩ := D.ex
  exact ⟨f, fd, ok f fd F, F.binds hb, F.kp, PySem.W.mg_of X G a⟩
structure HasTup (K : PySem.W.Frag) (x : Str) (xs : List V) : Prop where
  ex : ∃ a, PySem.W.nsIn K mainGlobals x = some (some (.ref a)) ∧ ∀ H, SqT K H a xs
def spLaw (K : PySem.W.Frag) : Sp := fun vs H Q _ => ∃ (a : Addr) (ns : List Int), vs = [.ref a] ∧ SqL K H a (ns.map V.int) ∧ ns.length ≤ 63 ∧ ∀ H', Q (.bl true) H'
theorem walkL {l : PySem.W.OpenLaw} {q : Program} {loose : List Str} {XP : (Str → Option Value) → Heap → Prop} {YP : World → Heap → Prop} {d : DefRec} {K : Params → PySem.W.Frag} (hn : l.most = some 63) (hdf : d.params.defaults = [])
    (hY : ∀ (w : World) (h : Heap), YP w h → (K w.params).In h)
    (F : ∀ (w : World) (mg : Str → Option Value) (fa : Addr) (h : Heap), (K w.params).In h → h.Ns mainGlobals mg → mg d.name = some (.ref fa) →
      ∃ fd : FuncData, (∀ (s : Shared) (u : Value), BindsTo s fd ⟨[u], []⟩ [("_law_script", u)]) ∧ ∀ base : Heap, (K w.params).In base → base.Ns mainGlobals mg → FnOk l.prog w (K w.params) mg base CX0 40 fa fd ["_law_script"] (spLaw (K w.params))) :
    PySem.W.WalkO q loose XP YP l.row.toRowW d [] (fun f vs => PySem.call f vs) :=
  L2.walk_of (n := 63) (k := 40) (x := "_law_script") (CX := fun _ => CX0) (sp := fun w => spLaw (K w.params)) hn (by decide) hdf ⟨rfl, by decide, by decide⟩ hY F (fun _ _ a ns hl _ hS => ⟨a, ns, rfl, hS, hl, fun _ => rfl⟩) fun _ _ _ _ _ z => z
theorem law_of {P : Program} {w : World} {K : PySem.W.Frag} {mg : Str → Option Value} {h : Heap} {st : Stmt} {fa : Addr} (X : K.In h) (G : h.Ns mainGlobals mg) (hmg : mg "law" = some (.ref fa)) (D : HasDef K "law" st)
    (hb : ∀ (kV doc pm : Value) (an : Option Addr) (cdv ct : Value) (u : Value), bindArgs (PySem.W.fnOf "law" "law" (defArgs st) (defBody st) (defScope st) .none kV doc pm an cdv ct) ⟨[u], []⟩ = pure [(("_law_script" : Str), u)])
    (ok : ∀ (base : Heap), K.In base → base.Ns mainGlobals mg → ∀ (f : Addr) (fd : FuncData), Fun K "law" "law" st f fd → FnOk P w K mg base CX0 40 f fd ["_law_script"] (spLaw K)) :
    ∃ fd : FuncData, (∀ (s : Shared) (u : Value), BindsTo s fd ⟨[u], []⟩ [("_law_script", u)]) ∧ ∀ base : Heap, K.In base → base.Ns mainGlobals mg → FnOk P w K mg base CX0 40 fa fd ["_law_script"] (spLaw K) := by
  obtain ⟨f, fd, F, a⟩ := D.ex
  have e := hmg.symm.trans (PySem.W.mg_of X G a)
  cases e
  refine ⟨fd, fun s u => ?_, fun base kb nb => ok base kb nb _ fd F⟩
  obtain ⟨oc, od, kV, doc, pm, an, cdv, ct, osl, rfl, lk, hcd⟩ := F.ex
  exact .of_eq (hb kV doc pm an cdv ct u)
def nD (q : Rat) : PyData := .tuple [.int q.num, .int (q.den : Int)]
def Sz (n : Nat) (q : Rat) : Prop := q.num.natAbs < 2 ^ n ∧ q.den < 2 ^ n
theorem eqv_num (p q : Rat) : PyData.eqv (nD p) (nD q) = decide (p = q) := by
  simp only [nD, PyData.eqv, PyData.eqvAll, Bool.and_true]
  by_cases h : p = q
  · subst h; simp
  · rw [decide_eq_false h]
    refine Bool.eq_false_iff.mpr fun z => h ?_
    simp only [Bool.and_eq_true, beq_iff_eq] at z
    exact Rat.ext z.1 (by omega)
theorem ok_num (q : Rat) : okD (nD q) = true := by
  unfold okD SeqAt.shaped nD
  simp [PyData.canLay0, PyData.canLayAll0, PyData.depth, PyData.depthAll]
theorem noL_num (q : Rat) : noL (nD q) = true := by simp [noL, noLs, nD]
end L3
namespace L3
open PySem PySem.Spec PyProof.Rows L2
section
variable {prog : Program} {w : World} {A : Around} {R : Result → Shared → Prop} {s : Shared}
theorem comp_loop {elt target iter : Expr} {ifs : List Expr} {scope : Scope} {pos : Pos} {it acc : Value} {env : Env} (W : Nat → Shared → Prop)
    (turn : ∀ n s, W n s → wpAny (model prog w) A (pyNext it) (fun r s1 => match r with
      | none => R (.ok .next) s1
      | some v => wpAny (model prog w) A (letOwnedTupleGo target it v) (fun _ s2 => wpAny (model prog w) A (assign target env v) (fun _ s3 =>
          wpAny (model prog w) A (forIn ifs true fun c r => if r = true then do let ok ← isTrue c env (eval c env); pure (ForInStep.yield ok) else pure (ForInStep.yield r)) (fun ok s4 =>
            if ok = true then wpAny (model prog w) A (eval elt env) (fun y s5 => wpAny (model prog w) A (call (.builtin "list.append") [acc, y]) (fun _ s6 => ∃ m, m < n ∧ W m s6) (fun _ _ => False) s5) (fun _ _ => False) s4
            else ∃ m, m < n ∧ W m s4) (fun _ _ => False) s3) (fun _ _ => False) s2) (fun _ _ => False) s1) (fun _ _ => False) s)
    (n : Nat) (h : W n s) : codeAny (model prog w) A (.compLoop (.ListComp elt [⟨target, iter, ifs, 0⟩] scope pos) 0 it acc env) R s := by
  refine codeAny_loop rfl W (fun n s hW => ?_) n h
  show wpAny _ A ((compTurn (.ListComp elt [⟨target, iter, ifs, 0⟩] scope pos) 0 it acc env).onRaise (fun x => do noteFrame x env; theTreesLotGoes x)) _ _ s
  refine wpAny_noted ?_
  rw [compTurn_list]
  refine wpAny_bind (wpAny_standAt (wpAny_bind (wpAny_mono (turn n s hW) (fun r s1 h1 => ?_) fun _ _ z => z.elim)))
  cases r with
  | none => exact wpAny_pure h1
  | some v =>
    refine wpAny_bind (wpAny_mono h1 (fun _ s2 h2 => ?_) fun _ _ z => z.elim)
    refine wpAny_bind (wpAny_mono h2 (fun _ s3 h3 => ?_) fun _ _ z => z.elim)
    refine wpAny_bind (wpAny_mono h3 (fun ok s4 h4 => ?_) fun _ _ z => z.elim)
    cases ok with
    | false => exact wpAny_pure ⟨rfl, h4⟩
    | true =>
      refine wpAny_bind (wpAny_bind (wpAny_mono h4 (fun y s5 h5 => ?_) fun _ _ z => z.elim))
      exact wpAny_bind (wpAny_mono h5 (fun _ s6 h6 => wpAny_pure (wpAny_pure ⟨rfl, h6⟩)) fun _ _ z => z.elim)
end
abbrev cxC (X : Cx) (x : Str) (scope : Scope) (cl : List (Str × Addr)) (C : Addr) (s0 : Shared) (H0 : Hp) (fp : List Addr) : Cx :=
  { X with N := x :: X.N, s₀ := s0, H₀ := H0, env := compEnvC scope cl C X.env, outer := X.stack, ex := fp, fn := fun _ => false, pn := [], xe := fun _ _ => False }
structure CompOk (X : Cx) (x : Str) (scope : Scope) (cl : List (Str × Addr)) : Prop where
  clos : closureFor scope X.env = pure cl
  sub : ∀ y c, cl.lookup y = some c → X.env.cells.lookup y = some c
  has : ∀ y, (relabel scope X.env).names.lookup y = some .cell ∨ (relabel scope X.env).names.lookup y = some .free → ∃ c, cl.lookup y = some c
  nocell : ∀ y ∈ scope.names, y.2 ≠ .cell
  kind : scope.kind = .function
  names : ∀ y ∈ scope.names, y.2 = .local → scope.names.lookup y.1 = some .local
  tgt : scope.names.lookup x = some .local
  cellv : ∀ y ∈ X.N, Vis (relabel scope X.env) y → ((relabel scope X.env).names.lookup y = some .cell ∨ (relabel scope X.env).names.lookup y = some .free) ∧ (X.env.scope.names.lookup y = some .cell ∨ X.env.scope.names.lookup y = some .free)
  nd : x ∉ X.N
def tLC (wi : TI) (tt : TT) (te : TE) : TE := fun σ H Q => wi σ H fun J H1 => ∀ acc, H1 acc = none → ∃ W : Nat → Nat → List V → Hp → Prop, (∃ m, W 0 m [] (upd H1 acc (.lst []))) ∧
  ∀ i m xs H, W i m xs H → H acc = some (.lst xs) ∧ ((J.stop i H ∧ Q (.ref acc) H) ∨ (J.go i H ∧ ∀ y H', J.yld i H y H' →
    tt (some y :: σ) H' fun ok H2 => if ok = true then te (some y :: σ) H2 fun v H3 => H3 acc = some (.lst xs) ∧ xs.length < sizeLine ∧ ∃ m', m' < m ∧ W (i + 1) m' (xs ++ [v]) (upd H3 acc (.lst (xs ++ [v]))) else ∃ m', m' < m ∧ W (i + 1) m' xs H2))
def PIfs (X : Cx) (ifs : List Expr) (t : TT) : Prop :=
  ∀ (pins : List (Addr × Obj)) (s : Shared) (σ : L2.St) (H : Hp) (Q : Bool → Hp → Prop), Inv X pins σ H s → t σ H Q →
    wpAny (model X.prog X.w) X.A (forIn ifs true fun c r => if r = true then do let ok ← isTrue c X.env (eval c X.env); pure (ForInStep.yield ok) else pure (ForInStep.yield r)) (TP X pins σ Q) X.xe s
def tTrue : TT := fun _ H Q => Q true H
theorem pifs_nil {X : Cx} : PIfs X [] tTrue := fun _ _ _ H _ I h => wpAny_tests_nil ⟨H, I, h⟩
theorem pifs_one {X : Cx} {c : Expr} {t : TT} (h : PT X c t) : PIfs X [c] t := fun pins s σ H Q I q => wpAny_tests_one (h pins s σ H Q I q)
section
variable {X : Cx} {x : Str} {scope : Scope} {cl : List (Str × Addr)} {wi : TI} {tt : TT} {te : TE} {elt iter : Expr} {ifs : List Expr} {px pos : Pos}
theorem pe_lc (ok : CompOk X x scope cl) (hN : X.N.Nodup) (hc : X.calm = true) (hi : PI X (.Name x px) iter wi) (ht : ∀ C s0 H0 fp, PIfs (cxC X x scope cl C s0 H0 fp) ifs tt) (he : ∀ C s0 H0 fp, PE (cxC X x scope cl C s0 H0 fp) elt te)
    (hf : ∀ v, foldedSetIterable iter X.env v = pure v := by intro _; rfl) : PE X (.ListComp elt [⟨.Name x px, iter, ifs, 0⟩] scope pos) (tLC wi tt te) := by
  intro pins s σ H Q I h
  rw [eval_ListComp]
  refine wpAny_comprehension_free (use := none) rfl hf ok.clos ok.kind ok.names (thn (hi pins s σ H _ I h) fun v s1 h1 => thn h1 fun itv s2 h2 => ?_)
  obtain ⟨it, fp, tn, J, H2, e, I2, T, st2, f2, W⟩ := h2
  subst e
  obtain ⟨W, ⟨m0, w0⟩, turn⟩ := W s2.heap.objs.size (I2.hok.fresh (Nat.le_refl _))
  have I3 : Inv X pins σ (upd H2 s2.heap.objs.size (.lst [])) { s2 with heap := s2.heap.push { cls := .type "list", data := .seq ([] : List Value).toArray } } := I2.lnew (t' := s2.toks) (its := []) .nil (Nat.zero_le _)
  refine wpAny_newObj_type ?_
  generalize hs3 : ({ s2 with heap := s2.heap.push { cls := .type "list", data := .seq ([] : List Value).toArray } } : Shared) = s3 at I3
  have hh3 : s3.heap = s2.heap.push { cls := .type "list", data := .seq ([] : List Value).toArray } := by rw [← hs3]
  refine wpAny_newFunctionEnv ok.nocell ((fun y hy => nomatch hy)) (fun h4 ns4 sb4 => ?_) ok.kind
  have fpo : ∀ b ∈ fp, ∃ o, s2.heap.get? b = some o := fun b hb => let ⟨o, e, _⟩ := T.obj _ _ st2 b hb; ⟨o, e⟩
  have old : ∀ b o, s3.heap.get? b = some o → h4.get? b = some o := fun b o e => sb4.extBut b o (Nat.ne_of_lt (Heap.lt_size e)) (Heap.get?_push_of_some _ e)
  have fplt : ∀ b ∈ fp, b < s3.heap.objs.size := fun b hb => by
    obtain ⟨o, e⟩ := fpo b hb
    rw [hh3, Heap.size_push]
    exact Nat.lt_succ_of_lt (Heap.lt_size e)
  have fp3 : ∀ b ∈ fp, FpOk X pins (upd H2 s2.heap.objs.size (.lst [])) b := fun b hb => by
    obtain ⟨o, e⟩ := fpo b hb
    refine ⟨?_, (f2 b hb).2⟩
    rw [upd_ne (Nat.ne_of_lt (Heap.lt_size e))]
    exact (f2 b hb).1
  have Cnew : ∀ b o, s3.heap.get? b = some o → b ≠ s3.heap.objs.size := fun b o e => Nat.ne_of_lt (Heap.lt_size e)
  have celln : ∀ y c, X.env.cells.lookup y = some c → c ≠ s3.heap.objs.size := fun y c e => by
    obtain ⟨v, o, ho, _⟩ := I3.cell y c e
    exact Cnew c o ho
  have okC : (cxC X x scope cl s3.heap.objs.size s3 (upd H2 s2.heap.objs.size (.lst [])) fp).Ok := by
    refine ⟨I3.ok.mod, ok.kind, I3.ok.glob, I3.ok.blt, Nat.le_refl _, fun y z c e1 e2 => I3.ok.inj y z c (ok.sub y c e1) (ok.sub z c e2), fun y hy => ok.has y hy, (fun y c e => nomatch e), I3.ok.hd, I3.ok.frames, .inl rfl, fun b hb => ?_, I3.bs, Nat.le_trans I3.ok.bsz I3.sz, fun b o e hb => ?_, fun b hb hf => ?_, I3.stack, I3.stkFree⟩
    · exact ⟨Nat.ne_of_lt (fplt b hb), fun y c e => (fp3 b hb).2.2.2.2.1 y c (ok.sub y c e)⟩
    · rcases (fp3 b hb).2.2.2.1 with z | z
      · exact I3.ok.noex b o e z
      · exact absurd (Nat.lt_of_lt_of_le (Heap.lt_size e) (Nat.le_trans I3.ok.bsz z)) (Nat.lt_irrefl _)
    · rcases List.mem_cons.mp (I3.stkSub b hf) with z | z
      · exact (fp3 b hb).2.1 z
      · exact (fp3 b hb).2.2.1 z
  obtain ⟨m3, hn3, hl3⟩ := I3.loc
  have I4 : Inv (cxC X x scope cl s3.heap.objs.size s3 (upd H2 s2.heap.objs.size (.lst [])) fp) [] (none :: σ) (upd H2 s2.heap.objs.size (.lst [])) { s3 with heap := h4, toks := s3.toks + 0 } := by
    refine ⟨okC, rfl, I3.bare, Un.kept old, ⟨_, ns4, fun i y v e1 e2 e3 => ?_⟩, fun y c e => ?_, I3.hok.fresh (Nat.le_refl _), fun y c e => I3.freeC y c (ok.sub y c e), (fun p hp => nomatch hp), I3.hok.kept old, ?_⟩
    · cases i with
      | zero => exact nomatch e2
      | succ i =>
        have e1' : X.N[i]? = some y := by simpa using e1
        have e2' : σ[i]? = some (some v) := by simpa using e2
        obtain ⟨kc, ko⟩ := ok.cellv y (List.mem_of_getElem? e1') e3
        have vis : Vis X.env.scope y := ko.elim (fun z => .inr (.inl z)) fun z => .inr (.inr z)
        obtain ⟨u, r, l⟩ := hl3 i y v e1' e2' vis
        refine ⟨u, r, .inr ⟨kc, ?_⟩⟩
        obtain ⟨c, ec⟩ := ok.has y kc
        rcases l with ⟨k, _⟩ | ⟨_, c', ec', z⟩
        · have k' : X.env.scope.names.lookup y = some .local := k
          rcases ko with ko | ko
          · rw [k'] at ko; cases ko
          · rw [k'] at ko; cases ko
        · have e4 := ok.sub y c ec
          rw [ec'] at e4; cases e4
          obtain ⟨o, e, d⟩ := z
          exact ⟨c, ec, o, old _ o e, d⟩
    · obtain ⟨v, o, ho, hd⟩ := I3.cell y c (ok.sub y c e)
      exact ⟨v, o, old c o ho, hd⟩
    · show (none :: σ).length = (x :: X.N).length
      rw [List.length_cons, List.length_cons, I3.len]
  have st4 : tn 0 h4 := T.keep _ _ _ st2 fun b hb o e => old b o (by rw [hh3]; exact Heap.get?_push_of_some _ e)
  have fin : ∀ {σ' : L2.St} {H' : Hp} {s' : Shared}, Inv (cxC X x scope cl s3.heap.objs.size s3 (upd H2 s2.heap.objs.size (.lst [])) fp) [] σ' H' s' → Q (.ref s2.heap.objs.size) H' →
      ∃ m, s'.heap.Ns s3.heap.objs.size m ∧ ∀ h', Heap.SameBut s3.heap.objs.size s'.heap h' → EP X pins σ Q (.ref s2.heap.objs.size) { s' with heap := h' } := fun {σ' H' s'} J q => by
    obtain ⟨m, hn, _⟩ := J.loc
    refine ⟨m, hn, fun h' sb => ⟨.ref s2.heap.objs.size, H', ?_, rfl, q⟩⟩
    have hC : H' s3.heap.objs.size = none := J.free
    have un : Un (frs X.stack) fp (upd H2 s2.heap.objs.size (.lst [])) H' s3.heap h' := by
      refine ⟨fun b o e z hb hx => ?_, fun b o e z hb hx => ?_, J.base.free, fun b o e hx => ?_, J.base.tups, J.base.frzs, J.base.tbls⟩
      · exact (sb.2 b (Cnew b o e)).trans (J.base.keep b o e z hb hx)
      · obtain ⟨sl, e1⟩ := J.base.slot b o e z hb hx
        exact ⟨sl, (sb.2 b (Cnew b o e)).trans e1⟩
      · obtain ⟨o', e1⟩ := J.base.there b o e hx
        exact ⟨o', (sb.2 b (Cnew b o e)).trans e1⟩
    have hok : HOk X.prog X.w H' h' := fun b ob e => by
      refine (J.hok b ob e).stay (fun c w' hc q => (sb.2 c ?_).trans q) (fun _ q => q) fun _ _ q => q
      intro z
      subst z
      rcases hc with hc | hc
      · rw [← hc, hC] at e; cases e
      · rw [hC] at hc; cases hc
    refine I3.call' (s' := { s' with heap := h' }) (ch := fp) J.os un hok J.bare fun b hb => ?_
    obtain ⟨_, h2, _, h4, h5, h6⟩ := fp3 b hb
    exact ⟨h4, h2, h5, h6⟩
  have stat : ∀ {H' : Hp}, (∀ b ∈ fp, H' b = none) → ∀ b ∈ fp, FpOk (cxC X x scope cl s3.heap.objs.size s3 (upd H2 s2.heap.objs.size (.lst [])) fp) [] H' b := fun hn b hb =>
    ⟨hn b hb, (okC.exf b hb).1, okC.exfs b hb, .inl hb, (okC.exf b hb).2, (fun p hp => nomatch hp)⟩
  have loop : codeAny (model X.prog X.w) X.A (.compLoop (.ListComp elt [⟨.Name x px, iter, ifs, 0⟩] scope pos) 0 (.ref it) (.ref s2.heap.objs.size) (compEnvC scope cl s3.heap.objs.size X.env))
      (compPost (model X.prog X.w) X.A X.xe none (EP X pins σ Q) (.ref s2.heap.objs.size) s3.heap.objs.size) { s3 with heap := h4, toks := s3.toks + 0 } := by
    refine comp_loop (fun n s' => ∃ i xs t H', Inv (cxC X x scope cl s3.heap.objs.size s3 (upd H2 s2.heap.objs.size (.lst [])) fp) [] (t :: σ) H' s' ∧ tn i s'.heap ∧ (∀ b ∈ fp, H' b = none) ∧ W i n xs H') ?_ m0 ⟨0, [], none, _, I4, st4, fun b hb => (fp3 b hb).1, w0⟩
    rintro n s5 ⟨i, xs, t, H5, I5, st5, fr5, w5⟩
    obtain ⟨hacc, alt⟩ := turn i n xs H5 w5
    rcases alt with ⟨stop, qn⟩ | ⟨go, step⟩
    · refine thn (T.done (cxC X x scope cl s3.heap.objs.size s3 (upd H2 s2.heap.objs.size (.lst [])) fp) rfl rfl rfl hc i [] s5 _ H5 _ I5 (stat fr5) st5 stop) fun r s6 z => ?_
      obtain ⟨hr, I6⟩ := z
      subst hr
      exact fin I6 qn
    · refine thn (T.item (cxC X x scope cl s3.heap.objs.size s3 (upd H2 s2.heap.objs.size (.lst [])) fp) rfl rfl rfl hc i [] s5 _ H5 _ I5 (stat fr5) st5 go) fun r s6 z => ?_
      obtain ⟨u, hr, h6⟩ := z
      subst hr
      refine thn h6 fun _ s7 z => ?_
      obtain ⟨y, H7, I7, r7, y7, st7, fr7⟩ := z
      have I7' := I7.pinned (stat fr7) (T.obj _ _ st7)
      have back : ∀ {t8 : Option V} {H8 : Hp} {s8 : Shared}, Inv (cxC X x scope cl s3.heap.objs.size s3 (upd H2 s2.heap.objs.size (.lst [])) fp) ([] ++ pinsAt fp s7.heap) (t8 :: σ) H8 s8 →
          Inv (cxC X x scope cl s3.heap.objs.size s3 (upd H2 s2.heap.objs.size (.lst [])) fp) [] (t8 :: σ) H8 s8 ∧ tn (i + 1) s8.heap ∧ ∀ b ∈ fp, H8 b = none := fun {t8 H8 s8} I8 => by
        refine ⟨I8.unpinned, T.keep _ _ _ st7 fun b hb o e => (I8.pin (b, o) (List.mem_append_right _ (List.mem_append_right _ (mem_pinsAt hb e)))).1, fun b hb => ?_⟩
        obtain ⟨o, e, d⟩ := T.obj _ _ st7 b hb
        exact (I8.pin (b, o) (List.mem_append_right _ (List.mem_append_right _ (mem_pinsAt hb e)))).2.1
      refine thn (pg_name (X := cxC X x scope cl s3.heap.objs.size s3 (upd H2 s2.heap.objs.size (.lst [])) fp) (i := 0) (List.nodup_cons.mpr ⟨ok.nd, hN⟩) rfl (Or.inl (lookup_relabel_local ok.tgt)) (.inr (lookup_relabel_local ok.tgt))
        _ s7 _ H7 y u (fun σ8 H8 => σ8 = some y :: σ ∧ H8 = H7) I7' r7 ⟨rfl, rfl⟩) fun _ s8 z => ?_
      obtain ⟨σ8, H8, I8, e8, e8'⟩ := z
      subst e8 e8'
      refine thn (ht s3.heap.objs.size s3 (upd H2 s2.heap.objs.size (.lst [])) fp _ s8 _ _ _ I8 (step y _ y7)) fun b9 s9 z => ?_
      obtain ⟨H9, I9, q9⟩ := z
      cases b9 with
      | false =>
        obtain ⟨m', hm, w9⟩ := (if_neg Bool.false_ne_true).mp q9
        obtain ⟨J9, st9, fr9⟩ := back I9
        exact ⟨m', hm, i + 1, xs, _, H9, J9, st9, fr9, w9⟩
      | true =>
        refine thn (he s3.heap.objs.size s3 (upd H2 s2.heap.objs.size (.lst [])) fp _ s9 _ H9 _ I9 ((if_pos rfl).mp q9)) fun yv sa z => ?_
        obtain ⟨va, Ha, Ia, ra, ea, za, m', hm, wa⟩ := z
        refine thn (mt_append (X := cxC X x scope cl s3.heap.objs.size s3 (upd H2 s2.heap.objs.size (.lst [])) fp) _ sa _ Ha (.ref s2.heap.objs.size) [va] (.ref s2.heap.objs.size) [yv]
          (fun _ Hb => W (i + 1) m' (xs ++ [va]) Hb) Ia rfl (.cons ra .nil) ⟨_, xs, va, rfl, rfl, ea, za, wa⟩) fun _ sb z => ?_
        obtain ⟨_, Hb, Ib, _, wb⟩ := z
        obtain ⟨Jb, stb, frb⟩ := back Ib
        exact ⟨m', hm, i + 1, _, _, Hb, Jb, stb, frb, wb⟩
  subst hs3
  exact codeAny_compStart_list loop (T.self _ 0 _ _ _ st4 loop)
end
end L3
namespace L3
open PySem PySem.Spec PyProof.Rows L2
namespace RF
theorem owner_rev : Manifest.owners.lookup (String.ofList ['d', 'e', 's', 'r', 'e', 'v', 'e', 'r'].reverse) = some Manifest.sig_reversed := by kernel_rfl
theorem slot_next : Slot "reversed" "__next__" "reversed.__next__" :=
  .of (owner := "reversed") (n := "__next__") (by rw [typeLookup_type, builtinLookup_eq_fast]; kernel_rfl) (by decide +kernel) (by decide +kernel) (by decide +kernel)
    (by first | exact .inl (by decide +kernel) | exact .inr (by decide +kernel)) (by rw [isSubtype_type]; kernel_rfl)
theorem entry_next : entryFor table "reversed.__next__" = some Builtin.«reversed.__next__» := entryFor_of_tree (by kernel_rfl)
theorem args_next_1 (a : Value) : argsOk "reversed.__next__" ⟨[a], []⟩ := by
  unfold argsOk; rw [signature?_of (id := "reversed.__next__") (n := ['_', '_', 't', 'x', 'e', 'n', '_', '_']) (o := ['d', 'e', 's', 'r', 'e', 'v', 'e', 'r']) (by kernel_rfl) owner_rev]; kernel_rfl
theorem slot_iter : Slot "reversed" "__iter__" "reversed.__iter__" :=
  .of (owner := "reversed") (n := "__iter__") (by rw [typeLookup_type, builtinLookup_eq_fast]; kernel_rfl) (by decide +kernel) (by decide +kernel) (by decide +kernel)
    (by first | exact .inl (by decide +kernel) | exact .inr (by decide +kernel)) (by rw [isSubtype_type]; kernel_rfl)
theorem args_iter_1 (a : Value) : argsOk "reversed.__iter__" ⟨[a], []⟩ := by
  unfold argsOk; rw [signature?_of (id := "reversed.__iter__") (n := ['_', '_', 'r', 'e', 't', 'i', '_', '_']) (o := ['d', 'e', 's', 'r', 'e', 'v', 'e', 'r']) (by kernel_rfl) owner_rev]; kernel_rfl
theorem entry_iter : entryFor table "reversed.__iter__" = some Builtin.«dict_keyiterator.__iter__» :=
  entryFor_alias (id' := "dict_keyiterator.__iter__") (by kernel_rfl) (by first | rfl | decide +kernel | (unfold String.splitOn; simp +decide [String.splitOnAux])) (by decide +kernel) (by kernel_rfl)
theorem no_rev : typeLookup (.type "tuple") "__reversed__" = pure none := by rw [typeLookup_type, builtinLookup_eq_fast]; kernel_rfl
theorem tup_dict : isSubtype (.type "tuple") (.type "dict") = pure false := by rw [isSubtype_type]; kernel_rfl
theorem slot_init : Slot "reversed" "__init__" "object.__init__" :=
  .of (owner := "object") (n := "__init__") (by rw [typeLookup_type, builtinLookup_eq_fast]; kernel_rfl) (by decide +kernel) (by decide +kernel) (by decide +kernel)
    (by first | exact .inl (by decide +kernel) | exact .inr (by decide +kernel)) (by rw [isSubtype_type]; kernel_rfl)
theorem called : TypeCalled "reversed" "reversed.__new__" "object.__init__" :=
  ⟨by decide +kernel, by decide +kernel, ⟨_, _, PySem.F.mro_reversed⟩, PySem.F.made_reversed, by decide +kernel, by rw [isSubtype_type]; kernel_rfl, slot_init⟩
end RF
section
variable {prog : Program} {w : World} {A : Around} {E : Value → Shared → Prop} {s : Shared}
def IsRevT (h : Heap) (a l : Addr) (i : Int) : Prop := ∃ o, h.get? a = some o ∧ o.cls = .type "reversed" ∧ o.data = .fields #[.ref l, rawInt i]
theorem IsRevT.typeIs {a l : Addr} {i : Int} (x : IsRevT s.heap a l i) : s.TypeIs (.ref a) "reversed" := let ⟨o, ho, hc, _⟩ := x; ⟨o, ho, hc⟩
theorem IsRevT.at {h h' : Heap} {a l : Addr} {i : Int} (x : IsRevT h a l i) (e : ∀ o, h.get? a = some o → h'.get? a = some o) : IsRevT h' a l i := let ⟨o, ho, r⟩ := x; ⟨o, e _ ho, r⟩
theorem rev_new_in (l : Addr) (items : Array Value) (hsz : items.size ≤ sizeLine) :
    MeetsIn prog w (Builtin.«reversed.__new__» ⟨[.type "reversed", .ref l], []⟩) (fun A R s => IsTup s.heap l items ∧ R (.ok (.ret (Value.ref s.heap.objs.size))) { s with heap := s.heap.push { cls := Value.type "reversed", data := Data.fields #[Value.ref l, rawInt ((items.size : Int) - 1)] }, toks := s.toks + 1 + 1 }) :=
  .of_wp fun A R s h => by
    obtain ⟨ht, h⟩ := h
    unfold Builtin.«reversed.__new__»
    refine wpAny_bind (wpAny_of_eq (newClass_reversed _) ?_)
    try dsimp only
    refine wpAny_bind (wpAny_of_eq (a := ()) (by first | rfl | kernel_rfl) ?_)
    refine wpAny_bind (wpAny_of_eq (a := ()) (by first | rfl | kernel_rfl) ?_)
    try dsimp only
    refine wpAny_bind (wpAny_specialOf ht.typeIs RF.no_rev ?_)
    try dsimp only
    refine wpAny_bind (wpAny_bind (m := isInstance (.ref l) (.type "dict")) (wpAny_isInstance ht.typeIs RF.tup_dict ?_))
    rw [if_neg Bool.false_ne_true]
    refine wpAny_bind (wpAny_specialOf ht.typeIs slot_tuple_getitem.lookup ?_)
    dsimp only
    rw [if_pos (by decide)]
    refine wpAny_pure ?_
    rw [if_neg (by decide)]
    have hl : (items.size : Int) < 2 ^ 63 := by
      have : (sizeLine : Nat) < 2 ^ 63 := by decide
      omega
    refine wpAny_bind (len_tuple ht hl ?_)
    refine wpAny_bind (wpAny_pure ?_)
    dsimp only
    refine wpAny_bind (m := newObj (.type "reversed") (.fields #[.ref l, rawInt ((items.size : Int) - 1)])) (wpAny_newObj_type ?_ (by size_fits))
    exact wpAny_pure ⟨_, rfl, h⟩
theorem call_reversed_tuple {l : Addr} {items : Array Value} {Q : Value → Shared → Prop} (ht : IsTup s.heap l items) (hsz : items.size ≤ sizeLine)
    (h : Q (.ref s.heap.objs.size) { s with heap := s.heap.push { cls := Value.type "reversed", data := Data.fields #[Value.ref l, rawInt ((items.size : Int) - 1)] }, toks := s.toks + 1 + 1 }) : wpAny (model prog w) A (call (.type "reversed") [.ref l]) Q E s :=
  callType_newIn RF.called (by decide) (F.typeCall_reversed_1 _) (F.newCall_reversed_1 _) (fun obj => F.initArgs_range_1 obj _) F.entry_reversed_new (rev_new_in l items hsz) ⟨ht, ⟨_, Heap.get?_push_size _ rfl, rfl⟩, h⟩
theorem setF {M : Model} {a : Addr} {o : Obj} {vs : Array Value} {i : Nat} {x : Value} {Q : Unit → Shared → Prop} (ho : s.heap.get? a = some o) (hd : o.data = .fields vs) (hi : i < vs.size)
    (h : ∀ h', (∃ o', h'.get? a = some o' ∧ o'.cls = o.cls ∧ o'.data = .fields (vs.setIfInBounds i x)) → Heap.SameBut a s.heap h' → Q () { s with heap := h' }) : wpAny M A (setField (.ref a) i x) Q E s :=
  wpAny_setField ho hd hi (h _ ⟨_, Heap.get?_update_self _ ho (Obj.isFreed_of_fields (Obj.data_mapFields hd _)), Obj.cls_mapFields .., Obj.data_mapFields hd _⟩ (Heap.SameBut.update ..))
theorem pyNext_revT_item {it l : Addr} {i : Nat} {items : Array Value} {x : Value} {Q : Option Value → Shared → Prop} (hit : IsRevT s.heap it l (i : Int)) (hl : IsTup s.heap l items) (hsz : items.size ≤ sizeLine) (hx : items[i]? = some x)
    (hQ : ∀ h' tk, IsRevT h' it l ((i : Int) - 1) → Heap.SameBut it s.heap h' → Q (some x) { s with heap := h', toks := tk }) : wpAny (model prog w) A (pyNext (.ref it)) Q E s := by
  obtain ⟨o, ho, hc, hd⟩ := id hit
  have hi : i < items.size := (Array.getElem?_eq_some_iff.mp hx).1
  have hb : (sizeLine : Nat) < 2 ^ 63 := by decide
  unfold pyNext
  refine wpAny_bind (wpAny_attempt (wpAny_callSpecial?_slot (name := Str.ofString "__next__") hit.typeIs RF.slot_next
    (wpAny_call_entry RF.slot_next hit.typeIs RF.entry_next ?_ (RF.args_next_1 _))))
  unfold Builtin.«reversed.__next__»
  refine wpAny_bind (wpAny_of_eq (a := (Value.ref it, [])) rfl ?_)
  try dsimp only
  refine wpAny_bind (wpAny_field ho hd (x := .ref l) rfl ?_)
  refine wpAny_bind (wpAny_field ho hd (x := rawInt (i : Int)) rfl ?_)
  show wpAny _ _ (if (i : Int) < 0 then _ else _) _ _ s
  rw [if_neg (by omega)]
  refine wpAny_bind (wpAny_specialOf hl.typeIs slot_tuple_getitem.lookup ?_)
  rw [if_neg (by decide)]
  refine wpAny_bind (wpAny_mkInt ?_)
  have ht2 : ∀ tk, IsTup ({ s with toks := tk } : Shared).heap l items := fun _ => hl
  refine wpAny_bind (wpAny_attempt (getItem_tuple (j := i) (ht2 _) (by omega) (by omega) (by unfold seqIndex?; simp; omega) hx ?_))
  dsimp only
  refine wpAny_bind (wpAny_field ho hd (x := rawInt (i : Int)) rfl ?_)
  show wpAny _ _ (setField (.ref it) 1 (rawInt ((i : Int) - 1)) >>= _) _ _ _
  refine wpAny_bind (wpAny_setField ho hd (by simp) ?_)
  refine wpAny_pure ⟨x, rfl, wpAny_pure (hQ _ _ ?_ (Heap.SameBut.update ..))⟩
  exact ⟨_, Heap.get?_update_self _ ho (Obj.isFreed_of_fields (Obj.data_mapFields hd _)), (Obj.cls_mapFields ..).trans hc, by
    rw [Obj.data_mapFields hd]; simp⟩
theorem pyNext_revT_end {it l : Addr} {Q : Option Value → Shared → Prop} (hh : A.handled = none) (hit : IsRevT s.heap it l (-1))
    (hQ : ∀ h', Heap.ExtBut it s.heap h' → Q none { s with heap := h' }) : wpAny (model prog w) A (pyNext (.ref it)) Q E s := by
  obtain ⟨o, ho, hc, hd⟩ := id hit
  unfold pyNext
  refine wpAny_bind (wpAny_attempt (wpAny_callSpecial?_slot (name := Str.ofString "__next__") hit.typeIs RF.slot_next
    (wpAny_call_entry RF.slot_next hit.typeIs RF.entry_next ?_ (RF.args_next_1 _))))
  unfold Builtin.«reversed.__next__»
  refine wpAny_bind (wpAny_of_eq (a := (Value.ref it, [])) rfl ?_)
  try dsimp only
  refine wpAny_bind (wpAny_field ho hd (x := .ref l) rfl ?_)
  refine wpAny_bind (wpAny_field ho hd (x := rawInt (-1)) rfl ?_)
  show wpAny _ _ (if (-1 : Int) < 0 then _ else _) _ _ s
  rw [if_pos (by decide)]
  refine wpAny_bind (wpAny_rule ?_)
  refine wpAny_bind (wpAny_bind (m := setField (.ref it) 1 (rawInt (-1))) (setF ho hd (by simp) fun h1 x1 sb1 => ?_))
  obtain ⟨o1, ho1, _, hd1⟩ := x1
  refine setF (s := { s with heap := h1 }) ho1 hd1 (by simp) fun h2 x2 sb2 => ?_
  have base : ∀ b o, b ≠ it → s.heap.get? b = some o → h2.get? b = some o := fun b o hb e => (sb2.2 b hb).trans ((sb1.2 b hb).trans e)
  first
  | show wpAny _ _ (newExc (.type "StopIteration") [] >>= _) _ _ _
  | (refine wpAny_bind ?_; show wpAny _ _ (newExc (.type "StopIteration") [] >>= _) _ _ _)
  refine wpAny_bind ?_
  simp only [newExc, newTuple]
  refine wpAny_bind (wpAny_newObj_type ?_ (by size_fits))
  refine wpAny_bind (m := firstArgMember _ _) (wpAny_of_eq (a := Value.none) (by first | rfl | (simp only [firstArgMember]; rfl)) ?_)
  refine wpAny_newObj_type ?_ (by size_fits)
  simp only [raiseNew]
  refine wpAny_bind (wpAny_handled ?_)
  first | rw [show A.in1.handled = none from hh] | rw [hh]
  refine wpAny_bind (wpAny_pure (wpAny_throw ?_))
  refine wpAny_bind (wpAny_isInstance (T := "StopIteration") (b := true) ⟨_, Heap.get?_push_size _ rfl, rfl⟩ isSubtype_stop ?_)
  exact wpAny_pure (hQ _ fun b o hb e => Heap.get?_push_of_some _ (Heap.get?_push_of_some _ (base b o hb e)))
theorem pyIter_revT {it l : Addr} {i : Int} {Q : Value → Shared → Prop} (hit : IsRevT s.heap it l i) (h : Q (.ref it) s) : wpAny (model prog w) A (pyIter (.ref it)) Q E s := by
  refine wpAny_pyIter_slot hit.typeIs RF.slot_iter (wpAny_call_entry RF.slot_iter hit.typeIs RF.entry_iter ?_ (RF.args_iter_1 _))
  show wpAny _ _ (ret (.ref it)) _ _ s
  exact wpAny_pure ⟨_, rfl, "reversed", _, hit.typeIs, RF.slot_next.lookup, h⟩
end
def Itv (K : PySem.W.Frag) (a : Addr) (n : Nat) : It :=
  ⟨fun i H => i < n ∧ ∃ xs, SqT K H a xs ∧ xs.length = n, fun i H x H' => H' = H ∧ ∀ xs, SqT K H a xs → xs[n - 1 - i]? = some x, fun i H => n ≤ i ∧ ∃ xs, SqT K H a xs ∧ xs.length = n⟩
theorem turn_revT {P : Program} {w : World} {K : PySem.W.Frag} {tg : Expr} (a it : Addr) (n : Nat) : Turn P w K tg (Itv K a n) [it] it (fun i h => i ≤ n ∧ IsRevT h it a ((n : Int) - 1 - (i : Int))) where
  mem := by simp
  obj := fun i h st b hb => by
    have e : b = it := by simpa using hb
    subst e
    obtain ⟨_, o, e, c, d⟩ := st
    exact ⟨o, e, fun v z => by rw [d] at z; cases z⟩
  keep := fun i h h' st k => ⟨st.1, st.2.at fun o e => k it (by simp) o e⟩
  item := by
    intro X hP hw hK hc i pins s σ H E I hf st hg
    subst hP hw hK
    obtain ⟨hi, xs, hq, hx⟩ := hg
    obtain ⟨its, rv, p, hz⟩ := I.tuple hq
    have hlen := rv.length
    have hget : xs[n - 1 - i]? = some (xs[n - 1 - i]'(by omega)) := List.getElem?_eq_getElem _
    obtain ⟨u, hu, ru⟩ := rv.get hget
    obtain ⟨f0, f1, f2, f3, f4, f5⟩ := hf it (by simp)
    have e : (n : Int) - 1 - (i : Int) = ((n - 1 - i : Nat) : Int) := by omega
    have hit := st.2
    rw [e] at hit
    refine pyNext_revT_item hit (show IsTup s.heap a its.toArray from p) (by rw [List.size_toArray, ← hlen]; exact hz) (x := u) (by simpa using hu) fun h' tk st' sb => ?_
    have e2 : ((n - 1 - i : Nat) : Int) - 1 = (n : Int) - 1 - ((i + 1 : Nat) : Int) := by omega
    rw [e2] at st'
    have I1 : Inv X pins σ H { s with heap := h', toks := tk } := I.turned (fun b o hb e => (sb.2 b hb).trans e) f0 f1 f3 f4 f5
    obtain ⟨o, e, c, d⟩ := id st'
    exact ⟨u, rfl, go_of (s := { s with heap := h', toks := tk }) e c d (by decide) ⟨_, H, I1, ru, ⟨rfl, fun ys hy => by rw [I.tuple_inj hy hq]; exact hget⟩, ⟨hi, st'⟩, fun b hb => (hf b hb).1⟩⟩
  done := by
    intro X hP hw hK hc i pins s σ H E I hf st hg
    subst hP hw hK
    obtain ⟨hi, _⟩ := hg
    obtain ⟨f0, f1, f2, f3, f4, f5⟩ := hf it (by simp)
    have e : (n : Int) - 1 - (i : Int) = -1 := by have := st.1; omega
    have hit := st.2
    rw [e] at hit
    exact pyNext_revT_end (I.ok.hd hc) hit fun h' eb => ⟨rfl, I.turned (t' := s.toks) (fun b o hb e => eb b o hb e) f0 f1 f3 f4 f5⟩
  self := fun _ _ _ _ _ st h => pyIter_revT st.2 h
section
variable {X : Cx} {tg : Expr}
def iRevT (K : PySem.W.Frag) (ta : TA) : TI := fun σ H R => ta σ H fun vs H1 => ∃ a xs, vs = [.ref a] ∧ SqT K H1 a xs ∧ R (Itv K a xs.length) H1
theorem pi_revT {a : Expr} {ta : TA} {p pos : Pos} (hg : Gl X "reversed") (hm : X.mg "reversed" = none) (ha : PA X [a] ta) (hs : starEach [a] X.env = [(false, eval a X.env)] := by rfl) : PI X tg (.Call (.Name "reversed" p) [a] [] pos) (iRevT X.K ta) := by
  intro pins s σ H R I h
  refine Call_ (ld_blt I hg hm boot_reversed (PyProof.Rows.callWith_type1 (thn (ha pos pins s σ H _ I h) fun us s1 ⟨vs, H1, I1, r1, q1⟩ => ?_) hs rfl))
  obtain ⟨a, xs, e, hq, q⟩ := q1
  subst e
  cases r1 with
  | cons r rr =>
    cases rr
    cases r
    obtain ⟨its, rv, p, hz⟩ := I1.tuple hq
    have hlen := rv.length
    refine call_reversed_tuple (show IsTup s1.heap a its.toArray from p) (by rw [List.size_toArray, ← hlen]; exact hz) ?_
    have I2 : Inv X pins σ H1 { s1 with heap := s1.heap.push { cls := Value.type "reversed", data := Data.fields #[Value.ref a, rawInt ((its.toArray.size : Int) - 1)] }, toks := s1.toks + 1 + 1 } := I1.kept fun b o e => Heap.get?_push_of_some _ e
    have hit : IsRevT (s1.heap.push { cls := Value.type "reversed", data := Data.fields #[Value.ref a, rawInt ((its.toArray.size : Int) - 1)] }) s1.heap.objs.size a ((its.toArray.size : Int) - 1) := ⟨_, Heap.get?_push_size _ rfl, rfl, rfl⟩
    refine pyIter_revT (s := { s1 with heap := s1.heap.push { cls := Value.type "reversed", data := Data.fields #[Value.ref a, rawInt ((its.toArray.size : Int) - 1)] }, toks := s1.toks + 1 + 1 }) hit ?_
    refine ⟨s1.heap.objs.size, [s1.heap.objs.size], _, _, H1, rfl, I2, turn_revT a _ xs.length, ⟨Nat.zero_le _, ?_⟩, fun b hb => ?_, q⟩
    · have e : (its.toArray.size : Int) - 1 = (xs.length : Int) - 1 - ((0 : Nat) : Int) := by simp; omega
      rw [← e]; exact hit
    · have e : b = s1.heap.objs.size := by simpa using hb
      subst e
      exact I1.fpOk (Nat.le_refl _) (I1.hok.fresh (Nat.le_refl _))
end
def Itd (lo : Int) (n : Nat) : It := ⟨fun i _ => i < n, fun i H x H' => H' = H ∧ x = .int (lo - i), fun i _ => n ≤ i⟩
theorem turn_rangeD {P : Program} {w : World} {K : PySem.W.Frag} {tg : Expr} (it : Addr) (lo : Int) (n : Nat) : Turn P w K tg (Itd lo n) [it] it (fun i h => IsRangeIter h it (lo + (i : Nat) * (-1)) ((n : Int) - (i : Nat)) (-1)) where
  mem := by simp
  obj := fun i h st b hb => by
    have e : b = it := by simpa using hb
    subst e
    exact ⟨_, st, fun v z => by
      have z' : Data.fields _ = Data.cell v := z
      cases z'⟩
  keep := fun i h h' st k => k it (by simp) _ st
  item := by
    intro X hP hw hK hc i pins s σ H E I hf st hg
    subst hP hw hK
    obtain ⟨f0, f1, f2, f3, f4, f5⟩ := hf it (by simp)
    have W := Walks.range (prog := X.prog) (w := X.w) (I.ok.hd hc) it lo (-1) n
    refine W.item i s _ _ hg st fun v h' tk hv st' kk => ?_
    obtain ⟨t, rfl⟩ := hv
    have I1 : Inv X pins σ H { s with heap := h', toks := tk } := I.turned (fun b o hb e => kk b o (by simpa using hb) e) f0 f1 f3 f4 f5
    refine ⟨_, rfl, go_of (s := { s with heap := h', toks := tk }) (n := "range_iterator") st' rfl rfl (by decide) ⟨.int (lo - i), H, I1, ⟨t, ?_⟩, ⟨rfl, rfl⟩, st', fun b hb => (hf b hb).1⟩⟩
    have e : lo + (i : Int) * -1 = lo - i := by omega
    rw [e]
  done := by
    intro X hP hw hK hc i pins s σ H E I hf st hg
    subst hP hw hK
    obtain ⟨f0, f1, f2, f3, f4, f5⟩ := hf it (by simp)
    exact wpAny_pyNext_range_end (I.ok.hd hc) st (by have : n ≤ i := hg; omega) fun h' eb => ⟨rfl, I.turned (t' := s.toks) (fun b o hb e => eb b o hb e) f0 f1 f3 f4 f5⟩
  self := fun _ _ _ _ _ st h => wpAny_pyIter_rangeiter st h
theorem rangeSize_m1 (a b : Int) : Builtin.Range.rangeSize a b (-1) = if b < a then a - b else 0 := by
  unfold Builtin.Range.rangeSize
  rw [if_neg (by decide)]
  split
  · have e : (a - b - 1) / (- -1) = a - b - 1 := by simp
    rw [e]; omega
  · rfl
theorem small_m1 {a b : Int} (ha : -(2 ^ 62) ≤ a) (ha' : a < 2 ^ 62) (hb : -(2 ^ 62) ≤ b) (hb' : b < 2 ^ 62) : Builtin.Range.small a b (-1) = true := by
  unfold Builtin.Range.small
  rw [rangeSize_m1]
  simp only [Builtin.Range.rangeFitsLong, Bool.and_eq_true, Bool.or_eq_true, decide_eq_true_eq, beq_iff_eq, show ¬ (-1 : Int) > 0 by decide, if_false]
  split <;> omega
section
variable {X : Cx} {tg : Expr}
theorem range_itD {pins : List (Addr × Obj)} {σ : L2.St} {H : Hp} {s : Shared} {R : It → Hp → Prop} {E : Value → Shared → Prop} {lo hi : Int} {t u v : Tok} {tk : Nat} (I : Inv X pins σ H s) (h1 : -(2 ^ 62) ≤ lo) (h2 : lo < 2 ^ 62) (h3 : -(2 ^ 62) ≤ hi) (h4 : hi < 2 ^ 62)
    (q : R (Itd lo (lo - hi).toNat) H) : wpAny (model X.prog X.w) X.A (pyIter (.ref s.heap.objs.size)) (PIE X pins σ tg R) E { s with heap := s.heap.push { cls := .type "range", data := .fields #[.int lo t, .int hi u, .int (-1) v] }, toks := tk } := by
  refine wpAny_pyIter_range (IsRange.new ..) (small_m1 h1 h2 h3 h4) ?_
  have I1 : Inv X pins σ H { s with heap := s.heap.push { cls := .type "range", data := .fields #[.int lo t, .int hi u, .int (-1) v] }, toks := tk } := I.kept fun b o e => Heap.get?_push_of_some _ e
  refine ⟨(s.heap.push { cls := .type "range", data := .fields #[.int lo t, .int hi u, .int (-1) v] }).objs.size, [(s.heap.push { cls := .type "range", data := .fields #[.int lo t, .int hi u, .int (-1) v] }).objs.size], _, _, H, rfl,
    I1.kept (t' := tk) fun b o e => Heap.get?_push_of_some _ e, turn_rangeD _ lo (lo - hi).toNat, ?_, fun b hb => ?_, q⟩
  · have e1 : lo + ((0 : Nat) : Int) * (-1) = lo := by simp
    have e2 : (((lo - hi).toNat : Nat) : Int) - ((0 : Nat) : Int) = Builtin.Range.rangeSize lo hi (-1) := by rw [rangeSize_m1]; split <;> omega
    show IsRangeIter _ _ (lo + ((0 : Nat) : Int) * (-1)) ((((lo - hi).toNat : Nat) : Int) - ((0 : Nat) : Int)) (-1)
    rw [e1, e2]
    exact Heap.get?_push_size _ rfl
  · have e : b = (s.heap.push { cls := .type "range", data := .fields #[.int lo t, .int hi u, .int (-1) v] }).objs.size := by simpa using hb
    subst e
    exact I1.fpOk (Nat.le_refl _) (I1.hok.fresh (Nat.le_refl _))
def iRng3 (ta : TA) : TI := fun σ H R => ta σ H fun vs H1 => ∃ i j : Int, vs = [.int i, .int j, .int (-1)] ∧ (-(2 ^ 62) ≤ i ∧ i < 2 ^ 62 ∧ -(2 ^ 62) ≤ j ∧ j < 2 ^ 62) ∧ R (Itd i (i - j).toNat) H1
theorem pi_range3 {a b c : Expr} {ta : TA} {p pos : Pos} (hg : Gl X "range") (hm : X.mg "range" = none) (ha : PA X [a, b, c] ta) (hs : starEach [a, b, c] X.env = (false, eval a X.env) :: starEach [b, c] X.env := by rfl) (hpl : (backTo pos (starEach [b, c] X.env)).any (·.1) = false := by rfl) :
    PI X tg (.Call (.Name "range" p) [a, b, c] [] pos) (iRng3 ta) := by
  intro pins s σ H R I h
  refine Call_ (ld_blt I hg hm boot_range (PyProof.Rows.callWith_type1 (thn (ha pos pins s σ H _ I h) fun us s1 ⟨vs, H1, I1, r1, q1⟩ => ?_) hs hpl))
  obtain ⟨i, j, e, ⟨q1, q2, q3, q4⟩, q⟩ := q1
  subst e
  cases r1 with
  | cons r rr =>
    cases rr with
    | cons r' rr =>
      cases rr with
      | cons r'' rr =>
        cases rr
        obtain ⟨t, rfl⟩ := r
        obtain ⟨t', rfl⟩ := r'
        obtain ⟨t'', rfl⟩ := r''
        exact call_range_3 (by decide) (range_itD I1 q1 q2 q3 q4 q) (.inl (PyProof.noPylong_small (by decide)))
end
section
variable {prog : Program} {w : World} {A : Around} {E : Value → Shared → Prop} {s : Shared}
end
section
variable {X : Cx} {e st : Expr} {te : TE} {p2 pos : Pos}
end
end L3
namespace L3
open PySem PySem.Spec PyProof.Rows L2
section
variable {X : Cx} {x : Str} {scope : Scope} {cl : List (Str × Addr)} {wi : TI} {tt : TT} {te : TE} {elt iter : Expr} {ifs : List Expr} {px pos : Pos}
theorem ps_lcA {y : Str} {py spos : Pos} {iy : Nat} (ok : CompOk X x scope cl) (hN : X.N.Nodup) (hc : X.calm = true) (hi : PI X (.Name x px) iter wi) (ht : ∀ C s0 H0 fp, PIfs (cxC X x scope cl C s0 H0 fp) ifs tt) (he : ∀ C s0 H0 fp, PE (cxC X x scope cl C s0 H0 fp) elt te)
    (hiy : X.N[iy]? = some y) (hy : Loc X.env.scope y) (hfy : X.fn y = true ∨ X.env.scope.names.lookup y = some .local) (hsw : swapsWith (.ListComp elt [⟨.Name x px, iter, ifs, 0⟩] scope pos) (some (.Name y py)) spos.line X.env = pure true)
    (hf : ∀ v, foldedSetIterable iter X.env v = pure v := by intro _; rfl) : PS X (.Assign [.Name y py] (.ListComp elt [⟨.Name x px, iter, ifs, 0⟩] scope pos) spos) (tAsg (tLC wi tt te) (gName iy)) := by
  intro pins s σ H D I h
  rw [exec_Assign_Name_used _ _ _ _ hsw]
  refine wpAny_bind (wpAny_standAt (wpAny_bind ?_))
  show wpAny _ X.A (do let _ ← comprehension (.ListComp elt [⟨.Name x px, iter, ifs, 0⟩] scope pos) scope X.env _ (newList []) false (eval iter X.env) (some (assign (.Name y py) X.env))) _ _ s
  have h' : tLC wi tt te σ H (fun x H1 => D.nx (σ.set iy (some x)) H1) := h
  generalize hQ : (fun x H1 => D.nx (σ.set iy (some x)) H1) = Q at h'
  refine wpAny_bind (wpAny_mono (wpAny_comprehension_free (use := some (assign (.Name y py) X.env)) (Q := fun _ s' => SP X pins D .next s') rfl hf ok.clos ok.kind ok.names (thn (hi pins s σ H _ I h') fun v s1 h1 => thn h1 fun itv s2 h2 => ?_)) (fun _ s' hq => wpAny_pure (wpAny_pure hq)) fun _ _ e => e)
  obtain ⟨it, fp, tn, J, H2, e, I2, T, st2, f2, W⟩ := h2
  subst e
  obtain ⟨W, ⟨m0, w0⟩, turn⟩ := W s2.heap.objs.size (I2.hok.fresh (Nat.le_refl _))
  have I3 : Inv X pins σ (upd H2 s2.heap.objs.size (.lst [])) { s2 with heap := s2.heap.push { cls := .type "list", data := .seq ([] : List Value).toArray } } := I2.lnew (t' := s2.toks) (its := []) .nil (Nat.zero_le _)
  refine wpAny_newObj_type ?_
  generalize hs3 : ({ s2 with heap := s2.heap.push { cls := .type "list", data := .seq ([] : List Value).toArray } } : Shared) = s3 at I3
  have hh3 : s3.heap = s2.heap.push { cls := .type "list", data := .seq ([] : List Value).toArray } := by rw [← hs3]
  refine wpAny_newFunctionEnv ok.nocell ((fun y hy => nomatch hy)) (fun h4 ns4 sb4 => ?_) ok.kind
  have fpo : ∀ b ∈ fp, ∃ o, s2.heap.get? b = some o := fun b hb => let ⟨o, e, _⟩ := T.obj _ _ st2 b hb; ⟨o, e⟩
  have old : ∀ b o, s3.heap.get? b = some o → h4.get? b = some o := fun b o e => sb4.extBut b o (Nat.ne_of_lt (Heap.lt_size e)) (Heap.get?_push_of_some _ e)
  have fplt : ∀ b ∈ fp, b < s3.heap.objs.size := fun b hb => by
    obtain ⟨o, e⟩ := fpo b hb
    rw [hh3, Heap.size_push]
    exact Nat.lt_succ_of_lt (Heap.lt_size e)
  have fp3 : ∀ b ∈ fp, FpOk X pins (upd H2 s2.heap.objs.size (.lst [])) b := fun b hb => by
    obtain ⟨o, e⟩ := fpo b hb
    refine ⟨?_, (f2 b hb).2⟩
    rw [upd_ne (Nat.ne_of_lt (Heap.lt_size e))]
    exact (f2 b hb).1
  have Cnew : ∀ b o, s3.heap.get? b = some o → b ≠ s3.heap.objs.size := fun b o e => Nat.ne_of_lt (Heap.lt_size e)
  have celln : ∀ y c, X.env.cells.lookup y = some c → c ≠ s3.heap.objs.size := fun y c e => by
    obtain ⟨v, o, ho, _⟩ := I3.cell y c e
    exact Cnew c o ho
  have okC : (cxC X x scope cl s3.heap.objs.size s3 (upd H2 s2.heap.objs.size (.lst [])) fp).Ok := by
    refine ⟨I3.ok.mod, ok.kind, I3.ok.glob, I3.ok.blt, Nat.le_refl _, fun y z c e1 e2 => I3.ok.inj y z c (ok.sub y c e1) (ok.sub z c e2), fun y hy => ok.has y hy, (fun y c e => nomatch e), I3.ok.hd, I3.ok.frames, .inl rfl, fun b hb => ?_, I3.bs, Nat.le_trans I3.ok.bsz I3.sz, fun b o e hb => ?_, fun b hb hf => ?_, I3.stack, I3.stkFree⟩
    · exact ⟨Nat.ne_of_lt (fplt b hb), fun y c e => (fp3 b hb).2.2.2.2.1 y c (ok.sub y c e)⟩
    · rcases (fp3 b hb).2.2.2.1 with z | z
      · exact I3.ok.noex b o e z
      · exact absurd (Nat.lt_of_lt_of_le (Heap.lt_size e) (Nat.le_trans I3.ok.bsz z)) (Nat.lt_irrefl _)
    · rcases List.mem_cons.mp (I3.stkSub b hf) with z | z
      · exact (fp3 b hb).2.1 z
      · exact (fp3 b hb).2.2.1 z
  obtain ⟨m3, hn3, hl3⟩ := I3.loc
  have I4 : Inv (cxC X x scope cl s3.heap.objs.size s3 (upd H2 s2.heap.objs.size (.lst [])) fp) [] (none :: σ) (upd H2 s2.heap.objs.size (.lst [])) { s3 with heap := h4, toks := s3.toks + 0 } := by
    refine ⟨okC, rfl, I3.bare, Un.kept old, ⟨_, ns4, fun i y v e1 e2 e3 => ?_⟩, fun y c e => ?_, I3.hok.fresh (Nat.le_refl _), fun y c e => I3.freeC y c (ok.sub y c e), (fun p hp => nomatch hp), I3.hok.kept old, ?_⟩
    · cases i with
      | zero => exact nomatch e2
      | succ i =>
        have e1' : X.N[i]? = some y := by simpa using e1
        have e2' : σ[i]? = some (some v) := by simpa using e2
        obtain ⟨kc, ko⟩ := ok.cellv y (List.mem_of_getElem? e1') e3
        have vis : Vis X.env.scope y := ko.elim (fun z => .inr (.inl z)) fun z => .inr (.inr z)
        obtain ⟨u, r, l⟩ := hl3 i y v e1' e2' vis
        refine ⟨u, r, .inr ⟨kc, ?_⟩⟩
        obtain ⟨c, ec⟩ := ok.has y kc
        rcases l with ⟨k, _⟩ | ⟨_, c', ec', z⟩
        · have k' : X.env.scope.names.lookup y = some .local := k
          rcases ko with ko | ko
          · rw [k'] at ko; cases ko
          · rw [k'] at ko; cases ko
        · have e4 := ok.sub y c ec
          rw [ec'] at e4; cases e4
          obtain ⟨o, e, d⟩ := z
          exact ⟨c, ec, o, old _ o e, d⟩
    · obtain ⟨v, o, ho, hd⟩ := I3.cell y c (ok.sub y c e)
      exact ⟨v, o, old c o ho, hd⟩
    · show (none :: σ).length = (x :: X.N).length
      rw [List.length_cons, List.length_cons, I3.len]
  have st4 : tn 0 h4 := T.keep _ _ _ st2 fun b hb o e => old b o (by rw [hh3]; exact Heap.get?_push_of_some _ e)
  have fin : ∀ {σ' : L2.St} {H' : Hp} {s' : Shared}, Inv (cxC X x scope cl s3.heap.objs.size s3 (upd H2 s2.heap.objs.size (.lst [])) fp) [] σ' H' s' → Q (.ref s2.heap.objs.size) H' →
      wpAny (model X.prog X.w) X.A (assign (.Name y py) X.env (.ref s2.heap.objs.size)) (fun _ s'' => ∃ m, s''.heap.Ns s3.heap.objs.size m ∧ ∀ h', Heap.SameBut s3.heap.objs.size s''.heap h' → SP X pins D .next { s'' with heap := h' }) X.xe s' := fun {σ' H' s'} J q => by
    obtain ⟨m, hn, _⟩ := J.loc
    have hC0 : H' s3.heap.objs.size = none := J.free
    have IO : ∀ h', Heap.SameBut s3.heap.objs.size s'.heap h' → Inv X pins σ H' { s' with heap := h' } := fun h' sb => by
      have hC : H' s3.heap.objs.size = none := J.free
      have un : Un (frs X.stack) fp (upd H2 s2.heap.objs.size (.lst [])) H' s3.heap h' := by
        refine ⟨fun b o e z hb hx => ?_, fun b o e z hb hx => ?_, J.base.free, fun b o e hx => ?_, J.base.tups, J.base.frzs, J.base.tbls⟩
        · exact (sb.2 b (Cnew b o e)).trans (J.base.keep b o e z hb hx)
        · obtain ⟨sl, e1⟩ := J.base.slot b o e z hb hx
          exact ⟨sl, (sb.2 b (Cnew b o e)).trans e1⟩
        · obtain ⟨o', e1⟩ := J.base.there b o e hx
          exact ⟨o', (sb.2 b (Cnew b o e)).trans e1⟩
      have hok : HOk X.prog X.w H' h' := fun b ob e => by
        refine (J.hok b ob e).stay (fun c w' hc q => (sb.2 c ?_).trans q) (fun _ q => q) fun _ _ q => q
        intro z
        subst z
        rcases hc with hc | hc
        · rw [← hc, hC] at e; cases e
        · rw [hC] at hc; cases hc
      refine I3.call' (s' := { s' with heap := h' }) (ch := fp) J.os un hok J.bare fun b hb => ?_
      obtain ⟨_, h2, _, h4, h5, h6⟩ := fp3 b hb
      exact ⟨h4, h2, h5, h6⟩
    have IS : Inv X pins σ H' s' := IO s'.heap ⟨rfl, fun _ _ => rfl⟩
    have fC := I3.fpOk (Nat.le_refl _) hC0
    refine wpAny_assign_Name (store_ok2 IS hN hiy hy (v := .ref s2.heap.objs.size) rfl (fun s'' I'' sx => ?_) hfy)
    obtain ⟨a, sb, ha⟩ := sx
    have hCa : s3.heap.objs.size ≠ a := by
      rcases ha with ha | ha
      · rw [ha]; exact fC.2.1
      · exact Ne.symm (celln _ _ ha)
    refine ⟨m, hn.sameBut sb hCa, fun h' sb' => ⟨_, H', I''.turned (t' := s''.toks) (it := s3.heap.objs.size) (fun b o hb e => (sb'.2 b hb).trans e) hC0 fC.2.1 fC.2.2.2.1 fC.2.2.2.2.1 fC.2.2.2.2.2, ?_⟩⟩
    subst hQ
    exact q
  have stat : ∀ {H' : Hp}, (∀ b ∈ fp, H' b = none) → ∀ b ∈ fp, FpOk (cxC X x scope cl s3.heap.objs.size s3 (upd H2 s2.heap.objs.size (.lst [])) fp) [] H' b := fun hn b hb =>
    ⟨hn b hb, (okC.exf b hb).1, okC.exfs b hb, .inl hb, (okC.exf b hb).2, (fun p hp => nomatch hp)⟩
  have loop : codeAny (model X.prog X.w) X.A (.compLoop (.ListComp elt [⟨.Name x px, iter, ifs, 0⟩] scope pos) 0 (.ref it) (.ref s2.heap.objs.size) (compEnvC scope cl s3.heap.objs.size X.env))
      (compPost (model X.prog X.w) X.A X.xe (some (assign (.Name y py) X.env)) (fun _ s' => SP X pins D .next s') (.ref s2.heap.objs.size) s3.heap.objs.size) { s3 with heap := h4, toks := s3.toks + 0 } := by
    refine comp_loop (fun n s' => ∃ i xs t H', Inv (cxC X x scope cl s3.heap.objs.size s3 (upd H2 s2.heap.objs.size (.lst [])) fp) [] (t :: σ) H' s' ∧ tn i s'.heap ∧ (∀ b ∈ fp, H' b = none) ∧ W i n xs H') ?_ m0 ⟨0, [], none, _, I4, st4, fun b hb => (fp3 b hb).1, w0⟩
    rintro n s5 ⟨i, xs, t, H5, I5, st5, fr5, w5⟩
    obtain ⟨hacc, alt⟩ := turn i n xs H5 w5
    rcases alt with ⟨stop, qn⟩ | ⟨go, step⟩
    · refine thn (T.done (cxC X x scope cl s3.heap.objs.size s3 (upd H2 s2.heap.objs.size (.lst [])) fp) rfl rfl rfl hc i [] s5 _ H5 _ I5 (stat fr5) st5 stop) fun r s6 z => ?_
      obtain ⟨hr, I6⟩ := z
      subst hr
      exact fin I6 qn
    · refine thn (T.item (cxC X x scope cl s3.heap.objs.size s3 (upd H2 s2.heap.objs.size (.lst [])) fp) rfl rfl rfl hc i [] s5 _ H5 _ I5 (stat fr5) st5 go) fun r s6 z => ?_
      obtain ⟨u, hr, h6⟩ := z
      subst hr
      refine thn h6 fun _ s7 z => ?_
      obtain ⟨y, H7, I7, r7, y7, st7, fr7⟩ := z
      have I7' := I7.pinned (stat fr7) (T.obj _ _ st7)
      have back : ∀ {t8 : Option V} {H8 : Hp} {s8 : Shared}, Inv (cxC X x scope cl s3.heap.objs.size s3 (upd H2 s2.heap.objs.size (.lst [])) fp) ([] ++ pinsAt fp s7.heap) (t8 :: σ) H8 s8 →
          Inv (cxC X x scope cl s3.heap.objs.size s3 (upd H2 s2.heap.objs.size (.lst [])) fp) [] (t8 :: σ) H8 s8 ∧ tn (i + 1) s8.heap ∧ ∀ b ∈ fp, H8 b = none := fun {t8 H8 s8} I8 => by
        refine ⟨I8.unpinned, T.keep _ _ _ st7 fun b hb o e => (I8.pin (b, o) (List.mem_append_right _ (List.mem_append_right _ (mem_pinsAt hb e)))).1, fun b hb => ?_⟩
        obtain ⟨o, e, d⟩ := T.obj _ _ st7 b hb
        exact (I8.pin (b, o) (List.mem_append_right _ (List.mem_append_right _ (mem_pinsAt hb e)))).2.1
      refine thn (pg_name (X := cxC X x scope cl s3.heap.objs.size s3 (upd H2 s2.heap.objs.size (.lst [])) fp) (i := 0) (List.nodup_cons.mpr ⟨ok.nd, hN⟩) rfl (Or.inl (lookup_relabel_local ok.tgt)) (.inr (lookup_relabel_local ok.tgt))
        _ s7 _ H7 y u (fun σ8 H8 => σ8 = some y :: σ ∧ H8 = H7) I7' r7 ⟨rfl, rfl⟩) fun _ s8 z => ?_
      obtain ⟨σ8, H8, I8, e8, e8'⟩ := z
      subst e8 e8'
      refine thn (ht s3.heap.objs.size s3 (upd H2 s2.heap.objs.size (.lst [])) fp _ s8 _ _ _ I8 (step y _ y7)) fun b9 s9 z => ?_
      obtain ⟨H9, I9, q9⟩ := z
      cases b9 with
      | false =>
        obtain ⟨m', hm, w9⟩ := (if_neg Bool.false_ne_true).mp q9
        obtain ⟨J9, st9, fr9⟩ := back I9
        exact ⟨m', hm, i + 1, xs, _, H9, J9, st9, fr9, w9⟩
      | true =>
        refine thn (he s3.heap.objs.size s3 (upd H2 s2.heap.objs.size (.lst [])) fp _ s9 _ H9 _ I9 ((if_pos rfl).mp q9)) fun yv sa z => ?_
        obtain ⟨va, Ha, Ia, ra, ea, za, m', hm, wa⟩ := z
        refine thn (mt_append (X := cxC X x scope cl s3.heap.objs.size s3 (upd H2 s2.heap.objs.size (.lst [])) fp) _ sa _ Ha (.ref s2.heap.objs.size) [va] (.ref s2.heap.objs.size) [yv]
          (fun _ Hb => W (i + 1) m' (xs ++ [va]) Hb) Ia rfl (.cons ra .nil) ⟨_, xs, va, rfl, rfl, ea, za, wa⟩) fun _ sb z => ?_
        obtain ⟨_, Hb, Ib, _, wb⟩ := z
        obtain ⟨Jb, stb, frb⟩ := back Ib
        exact ⟨m', hm, i + 1, _, _, Hb, Jb, stb, frb, wb⟩
  subst hs3
  exact codeAny_compStart_list loop (T.self _ 0 _ _ _ st4 loop)
end
end L3
namespace L3
open PySem PySem.Spec PyProof.Rows L2
namespace RF
end RF
section
variable {prog : Program} {w : World} {A : Around} {E : Value → Shared → Prop} {s : Shared}
variable {I : Addr} {fp wr : List Addr} {G : Array GenState → Array GenState → Prop} {n : Nat} {P : Nat → Value → Prop} {St : Nat → Shared → Prop} {R : Result → Shared → Prop}
end
section
variable {X : Cx}
end
end L3
namespace L3
open PySem PySem.Spec PyProof.Rows L2
structure CompOk2 (X : Cx) (x x2 : Str) (scope : Scope) (cl : List (Str × Addr)) : Prop where
  base : CompOk X x scope cl
  tg2 : scope.names.lookup x2 = some .local
  nd2 : x2 ∉ X.N
  ne : x ≠ x2
section
variable {X : Cx} {x x2 : Str} {kk : Nat} {py pt : Pos} {scope : Scope} {cl : List (Str × Addr)} {wi : TI} {tt : TT} {te : TE} {elt iter : Expr} {ifs : List Expr} {px pos : Pos}
end
end L3
namespace HT
open PySem PyProof.Rows
section
variable {prog : Program} {w : World} {A : Around} {E : Value → Shared → Prop} {s : Shared}
theorem getItem_tuple_whole {t sl : Addr} {items : Array Value} {vl vu : Value} {lo hi : Option Int} {Q : Value → Shared → Prop} (ht : IsTup s.heap t items) (hs : s.heap.IsSliceOf sl vl vu .none) (pl : IsPart vl lo) (pu : IsPart vu hi)
    (hw : sIx items.size 0 lo = 0 ∧ sIx items.size items.size hi = items.size)
    (h : Q (.ref t) s) : wpAny (model prog w) A (getItem (.ref t) (.ref sl)) Q E s := by
  obtain ⟨os, hos, hcs, hds⟩ := id hs
  have hTs : s.TypeIs (.ref sl) "slice" := ⟨os, hos, hcs⟩
  unfold getItem
  try with_reducible refine wpAny_holding ?_
  first | refine wpAny_bind (wpAny_pure ?_) | skip
  refine wpAny_bind (wpAny_sequenceKey ht.typeIs (by decide) ?_)
  refine wpAny_bind (wpAny_callSpecial?_slot (name := Str.ofString "__getitem__") ht.typeIs PyProof.Rows.slot_tuple_getitem
    (wpAny_call_entry PyProof.Rows.slot_tuple_getitem ht.typeIs entry_tuple_getitem ?_ (args_tuple_getitem _ _)))
  show wpAny _ _ (Builtin.Tuple.tupleItemsOf (.ref t) >>= _) _ _ s
  refine wpAny_bind (tupleItemsOf_ ht ?_)
  refine wpAny_bind (wpAny_typeOf hTs ?_)
  rw [if_pos (by decide)]
  refine wpAny_bind (sliceApplied_gen hs pl pu ?_)
  have hyes : ((((sIx items.size 0 lo : Nat) : Int) == 0 && (1 : Int) == 1 && (sIx items.size items.size hi - sIx items.size 0 lo) == items.size) = true) := by
    rw [hw.1, hw.2]; simp
  show wpAny _ _ (if (((sIx items.size 0 lo : Nat) : Int) == 0 && (1 : Int) == 1 && (sIx items.size items.size hi - sIx items.size 0 lo) == items.size) = true then _ else _) _ _ s
  rw [if_pos hyes]
  refine wpAny_bind (m := Builtin.Tuple.tupleIsExact _) ?_
  unfold Builtin.Tuple.tupleIsExact
  refine wpAny_bind (wpAny_typeOf ht.typeIs ?_)
  refine wpAny_pure ?_
  rw [if_pos (by decide)]
  refine wpAny_bind (wpAny_rule ?_)
  first
    | exact wpAny_pure ⟨_, rfl, wpAny_pure h⟩
    | exact wpAny_bind (wpAny_pure (wpAny_pure ⟨_, rfl, wpAny_pure h⟩))
end
end HT
namespace L3
open PySem PySem.Spec PyProof.Rows L2
variable {X : Cx}
def rSlTW (K : PySem.W.Frag) : V → Option Int → Option Int → Hp → VK → Prop := fun x lo hi H Q => ∃ a xs, x = .ref a ∧ SqT K H a xs ∧
  ((HT.sIx xs.length 0 lo = 0 ∧ HT.sIx xs.length xs.length hi = xs.length) → Q (.ref a) H) ∧
  (¬ (HT.sIx xs.length 0 lo = 0 ∧ HT.sIx xs.length xs.length hi = xs.length) → ∀ p, H p = none → Q (.ref p) (upd H p (.tup (cutV xs lo hi))))
theorem sl_tupW : SlR X (rSlTW X.K) := by
  intro pins s σ H x v vl vu lo hi sl Q I rx hs pl pu h
  obtain ⟨a, xs, rfl, hx, q1, q2⟩ := h
  by_cases hw : HT.sIx xs.length 0 lo = 0 ∧ HT.sIx xs.length xs.length hi = xs.length
  · cases rx
    obtain ⟨its, r, ht, hz⟩ := I.tuple hx
    have hlen : its.toArray.size = xs.length := by rw [List.size_toArray]; exact r.length.symm
    refine ⟨"tuple", _, PyProof.Rows.slot_tuple_getitem.lookup, ht.typeIs, ?_⟩
    exact HT.getItem_tuple_whole ht hs pl pu (by rw [hlen]; exact hw) ⟨.ref a, H, I, rfl, q1 hw⟩
  · exact sl_tup pins s σ H _ v vl vu lo hi sl Q I rx hs pl pu ⟨a, xs, rfl, hx, hw, q2 hw⟩
end L3
namespace L3
open PySem PySem.Spec PyProof.Rows L2 PySem.AutoSeq1
section
variable {X : Cx}
end
end L3
namespace L3
open PySem PySem.Spec PyProof.Rows L2
abbrev cxN (X : Cx) (N' : List Str) (x : Str) (scope : Scope) (cl : List (Str × Addr)) (C : Addr) (s0 : Shared) (H0 : Hp) (fp : List Addr) : Cx :=
  { X with N := x :: N', s₀ := s0, H₀ := H0, env := compEnvC scope cl C X.env, outer := X.stack, ex := fp, fn := fun _ => false, pn := [], xe := fun _ _ => False }
structure CompOkN (X : Cx) (N' : List Str) (x : Str) (scope : Scope) (cl : List (Str × Addr)) : Prop where
  clos : closureFor scope X.env = pure cl
  sub : ∀ y c, cl.lookup y = some c → X.env.cells.lookup y = some c
  has : ∀ y, (relabel scope X.env).names.lookup y = some .cell ∨ (relabel scope X.env).names.lookup y = some .free → ∃ c, cl.lookup y = some c
  nocell : ∀ y ∈ scope.names, y.2 ≠ .cell
  kind : scope.kind = .function
  names : ∀ y ∈ scope.names, y.2 = .local → scope.names.lookup y.1 = some .local
  tgt : scope.names.lookup x = some .local
  cellv : ∀ y ∈ N', Vis (relabel scope X.env) y → ((relabel scope X.env).names.lookup y = some .cell ∨ (relabel scope X.env).names.lookup y = some .free) ∧ (X.env.scope.names.lookup y = some .cell ∨ X.env.scope.names.lookup y = some .free)
  nd : (x :: N').Nodup
  len : N'.length = X.N.length
  at_ : ∀ (i : Nat) (y : Str), N'[i]? = some y → Vis (relabel scope X.env) y → X.N[i]? = some y
section
variable {X : Cx} {N' : List Str} {x : Str} {scope : Scope} {cl : List (Str × Addr)} {wi : TI} {tt : TT} {te : TE} {elt iter : Expr} {ifs : List Expr} {px pos : Pos}
theorem pe_lcN (ok : CompOkN X N' x scope cl) (hc : X.calm = true) (hi : PI X (.Name x px) iter wi) (ht : ∀ C s0 H0 fp, PIfs (cxN X N' x scope cl C s0 H0 fp) ifs tt) (he : ∀ C s0 H0 fp, PE (cxN X N' x scope cl C s0 H0 fp) elt te)
    (hf : ∀ v, foldedSetIterable iter X.env v = pure v := by intro _; rfl) : PE X (.ListComp elt [⟨.Name x px, iter, ifs, 0⟩] scope pos) (tLC wi tt te) := by
  intro pins s σ H Q I h
  rw [eval_ListComp]
  refine wpAny_comprehension_free (use := none) rfl hf ok.clos ok.kind ok.names (thn (hi pins s σ H _ I h) fun v s1 h1 => thn h1 fun itv s2 h2 => ?_)
  obtain ⟨it, fp, tn, J, H2, e, I2, T, st2, f2, W⟩ := h2
  subst e
  obtain ⟨W, ⟨m0, w0⟩, turn⟩ := W s2.heap.objs.size (I2.hok.fresh (Nat.le_refl _))
  have I3 : Inv X pins σ (upd H2 s2.heap.objs.size (.lst [])) { s2 with heap := s2.heap.push { cls := .type "list", data := .seq ([] : List Value).toArray } } := I2.lnew (t' := s2.toks) (its := []) .nil (Nat.zero_le _)
  refine wpAny_newObj_type ?_
  generalize hs3 : ({ s2 with heap := s2.heap.push { cls := .type "list", data := .seq ([] : List Value).toArray } } : Shared) = s3 at I3
  have hh3 : s3.heap = s2.heap.push { cls := .type "list", data := .seq ([] : List Value).toArray } := by rw [← hs3]
  refine wpAny_newFunctionEnv ok.nocell ((fun y hy => nomatch hy)) (fun h4 ns4 sb4 => ?_) ok.kind
  have fpo : ∀ b ∈ fp, ∃ o, s2.heap.get? b = some o := fun b hb => let ⟨o, e, _⟩ := T.obj _ _ st2 b hb; ⟨o, e⟩
  have old : ∀ b o, s3.heap.get? b = some o → h4.get? b = some o := fun b o e => sb4.extBut b o (Nat.ne_of_lt (Heap.lt_size e)) (Heap.get?_push_of_some _ e)
  have fplt : ∀ b ∈ fp, b < s3.heap.objs.size := fun b hb => by
    obtain ⟨o, e⟩ := fpo b hb
    rw [hh3, Heap.size_push]
    exact Nat.lt_succ_of_lt (Heap.lt_size e)
  have fp3 : ∀ b ∈ fp, FpOk X pins (upd H2 s2.heap.objs.size (.lst [])) b := fun b hb => by
    obtain ⟨o, e⟩ := fpo b hb
    refine ⟨?_, (f2 b hb).2⟩
    rw [upd_ne (Nat.ne_of_lt (Heap.lt_size e))]
    exact (f2 b hb).1
  have Cnew : ∀ b o, s3.heap.get? b = some o → b ≠ s3.heap.objs.size := fun b o e => Nat.ne_of_lt (Heap.lt_size e)
  have celln : ∀ y c, X.env.cells.lookup y = some c → c ≠ s3.heap.objs.size := fun y c e => by
    obtain ⟨v, o, ho, _⟩ := I3.cell y c e
    exact Cnew c o ho
  have okC : (cxN X N' x scope cl s3.heap.objs.size s3 (upd H2 s2.heap.objs.size (.lst [])) fp).Ok := by
    refine ⟨I3.ok.mod, ok.kind, I3.ok.glob, I3.ok.blt, Nat.le_refl _, fun y z c e1 e2 => I3.ok.inj y z c (ok.sub y c e1) (ok.sub z c e2), fun y hy => ok.has y hy, (fun y c e => nomatch e), I3.ok.hd, I3.ok.frames, .inl rfl, fun b hb => ?_, I3.bs, Nat.le_trans I3.ok.bsz I3.sz, fun b o e hb => ?_, fun b hb hf => ?_, I3.stack, I3.stkFree⟩
    · exact ⟨Nat.ne_of_lt (fplt b hb), fun y c e => (fp3 b hb).2.2.2.2.1 y c (ok.sub y c e)⟩
    · rcases (fp3 b hb).2.2.2.1 with z | z
      · exact I3.ok.noex b o e z
      · exact absurd (Nat.lt_of_lt_of_le (Heap.lt_size e) (Nat.le_trans I3.ok.bsz z)) (Nat.lt_irrefl _)
    · rcases List.mem_cons.mp (I3.stkSub b hf) with z | z
      · exact (fp3 b hb).2.1 z
      · exact (fp3 b hb).2.2.1 z
  obtain ⟨m3, hn3, hl3⟩ := I3.loc
  have I4 : Inv (cxN X N' x scope cl s3.heap.objs.size s3 (upd H2 s2.heap.objs.size (.lst [])) fp) [] (none :: σ) (upd H2 s2.heap.objs.size (.lst [])) { s3 with heap := h4, toks := s3.toks + 0 } := by
    refine ⟨okC, rfl, I3.bare, Un.kept old, ⟨_, ns4, fun i y v e1 e2 e3 => ?_⟩, fun y c e => ?_, I3.hok.fresh (Nat.le_refl _), fun y c e => I3.freeC y c (ok.sub y c e), (fun p hp => nomatch hp), I3.hok.kept old, ?_⟩
    · cases i with
      | zero => exact nomatch e2
      | succ i =>
        have e0' : N'[i]? = some y := by simpa using e1
        have e1' : X.N[i]? = some y := ok.at_ i y e0' e3
        have e2' : σ[i]? = some (some v) := by simpa using e2
        obtain ⟨kc, ko⟩ := ok.cellv y (List.mem_of_getElem? e0') e3
        have vis : Vis X.env.scope y := ko.elim (fun z => .inr (.inl z)) fun z => .inr (.inr z)
        obtain ⟨u, r, l⟩ := hl3 i y v e1' e2' vis
        refine ⟨u, r, .inr ⟨kc, ?_⟩⟩
        obtain ⟨c, ec⟩ := ok.has y kc
        rcases l with ⟨k, _⟩ | ⟨_, c', ec', z⟩
        · have k' : X.env.scope.names.lookup y = some .local := k
          rcases ko with ko | ko
          · rw [k'] at ko; cases ko
          · rw [k'] at ko; cases ko
        · have e4 := ok.sub y c ec
          rw [ec'] at e4; cases e4
          obtain ⟨o, e, d⟩ := z
          exact ⟨c, ec, o, old _ o e, d⟩
    · obtain ⟨v, o, ho, hd⟩ := I3.cell y c (ok.sub y c e)
      exact ⟨v, o, old c o ho, hd⟩
    · show (none :: σ).length = (x :: N').length
      rw [List.length_cons, List.length_cons, I3.len, ok.len]
  have st4 : tn 0 h4 := T.keep _ _ _ st2 fun b hb o e => old b o (by rw [hh3]; exact Heap.get?_push_of_some _ e)
  have fin : ∀ {σ' : L2.St} {H' : Hp} {s' : Shared}, Inv (cxN X N' x scope cl s3.heap.objs.size s3 (upd H2 s2.heap.objs.size (.lst [])) fp) [] σ' H' s' → Q (.ref s2.heap.objs.size) H' →
      ∃ m, s'.heap.Ns s3.heap.objs.size m ∧ ∀ h', Heap.SameBut s3.heap.objs.size s'.heap h' → EP X pins σ Q (.ref s2.heap.objs.size) { s' with heap := h' } := fun {σ' H' s'} J q => by
    obtain ⟨m, hn, _⟩ := J.loc
    refine ⟨m, hn, fun h' sb => ⟨.ref s2.heap.objs.size, H', ?_, rfl, q⟩⟩
    have hC : H' s3.heap.objs.size = none := J.free
    have un : Un (frs X.stack) fp (upd H2 s2.heap.objs.size (.lst [])) H' s3.heap h' := by
      refine ⟨fun b o e z hb hx => ?_, fun b o e z hb hx => ?_, J.base.free, fun b o e hx => ?_, J.base.tups, J.base.frzs, J.base.tbls⟩
      · exact (sb.2 b (Cnew b o e)).trans (J.base.keep b o e z hb hx)
      · obtain ⟨sl, e1⟩ := J.base.slot b o e z hb hx
        exact ⟨sl, (sb.2 b (Cnew b o e)).trans e1⟩
      · obtain ⟨o', e1⟩ := J.base.there b o e hx
        exact ⟨o', (sb.2 b (Cnew b o e)).trans e1⟩
    have hok : HOk X.prog X.w H' h' := fun b ob e => by
      refine (J.hok b ob e).stay (fun c w' hc q => (sb.2 c ?_).trans q) (fun _ q => q) fun _ _ q => q
      intro z
      subst z
      rcases hc with hc | hc
      · rw [← hc, hC] at e; cases e
      · rw [hC] at hc; cases hc
    refine I3.call' (s' := { s' with heap := h' }) (ch := fp) J.os un hok J.bare fun b hb => ?_
    obtain ⟨_, h2, _, h4, h5, h6⟩ := fp3 b hb
    exact ⟨h4, h2, h5, h6⟩
  have stat : ∀ {H' : Hp}, (∀ b ∈ fp, H' b = none) → ∀ b ∈ fp, FpOk (cxN X N' x scope cl s3.heap.objs.size s3 (upd H2 s2.heap.objs.size (.lst [])) fp) [] H' b := fun hn b hb =>
    ⟨hn b hb, (okC.exf b hb).1, okC.exfs b hb, .inl hb, (okC.exf b hb).2, (fun p hp => nomatch hp)⟩
  have loop : codeAny (model X.prog X.w) X.A (.compLoop (.ListComp elt [⟨.Name x px, iter, ifs, 0⟩] scope pos) 0 (.ref it) (.ref s2.heap.objs.size) (compEnvC scope cl s3.heap.objs.size X.env))
      (compPost (model X.prog X.w) X.A X.xe none (EP X pins σ Q) (.ref s2.heap.objs.size) s3.heap.objs.size) { s3 with heap := h4, toks := s3.toks + 0 } := by
    refine comp_loop (fun n s' => ∃ i xs t H', Inv (cxN X N' x scope cl s3.heap.objs.size s3 (upd H2 s2.heap.objs.size (.lst [])) fp) [] (t :: σ) H' s' ∧ tn i s'.heap ∧ (∀ b ∈ fp, H' b = none) ∧ W i n xs H') ?_ m0 ⟨0, [], none, _, I4, st4, fun b hb => (fp3 b hb).1, w0⟩
    rintro n s5 ⟨i, xs, t, H5, I5, st5, fr5, w5⟩
    obtain ⟨hacc, alt⟩ := turn i n xs H5 w5
    rcases alt with ⟨stop, qn⟩ | ⟨go, step⟩
    · refine thn (T.done (cxN X N' x scope cl s3.heap.objs.size s3 (upd H2 s2.heap.objs.size (.lst [])) fp) rfl rfl rfl hc i [] s5 _ H5 _ I5 (stat fr5) st5 stop) fun r s6 z => ?_
      obtain ⟨hr, I6⟩ := z
      subst hr
      exact fin I6 qn
    · refine thn (T.item (cxN X N' x scope cl s3.heap.objs.size s3 (upd H2 s2.heap.objs.size (.lst [])) fp) rfl rfl rfl hc i [] s5 _ H5 _ I5 (stat fr5) st5 go) fun r s6 z => ?_
      obtain ⟨u, hr, h6⟩ := z
      subst hr
      refine thn h6 fun _ s7 z => ?_
      obtain ⟨y, H7, I7, r7, y7, st7, fr7⟩ := z
      have I7' := I7.pinned (stat fr7) (T.obj _ _ st7)
      have back : ∀ {t8 : Option V} {H8 : Hp} {s8 : Shared}, Inv (cxN X N' x scope cl s3.heap.objs.size s3 (upd H2 s2.heap.objs.size (.lst [])) fp) ([] ++ pinsAt fp s7.heap) (t8 :: σ) H8 s8 →
          Inv (cxN X N' x scope cl s3.heap.objs.size s3 (upd H2 s2.heap.objs.size (.lst [])) fp) [] (t8 :: σ) H8 s8 ∧ tn (i + 1) s8.heap ∧ ∀ b ∈ fp, H8 b = none := fun {t8 H8 s8} I8 => by
        refine ⟨I8.unpinned, T.keep _ _ _ st7 fun b hb o e => (I8.pin (b, o) (List.mem_append_right _ (List.mem_append_right _ (mem_pinsAt hb e)))).1, fun b hb => ?_⟩
        obtain ⟨o, e, d⟩ := T.obj _ _ st7 b hb
        exact (I8.pin (b, o) (List.mem_append_right _ (List.mem_append_right _ (mem_pinsAt hb e)))).2.1
      refine thn (pg_name (X := cxN X N' x scope cl s3.heap.objs.size s3 (upd H2 s2.heap.objs.size (.lst [])) fp) (i := 0) ok.nd rfl (Or.inl (lookup_relabel_local ok.tgt)) (.inr (lookup_relabel_local ok.tgt))
        _ s7 _ H7 y u (fun σ8 H8 => σ8 = some y :: σ ∧ H8 = H7) I7' r7 ⟨rfl, rfl⟩) fun _ s8 z => ?_
      obtain ⟨σ8, H8, I8, e8, e8'⟩ := z
      subst e8 e8'
      refine thn (ht s3.heap.objs.size s3 (upd H2 s2.heap.objs.size (.lst [])) fp _ s8 _ _ _ I8 (step y _ y7)) fun b9 s9 z => ?_
      obtain ⟨H9, I9, q9⟩ := z
      cases b9 with
      | false =>
        obtain ⟨m', hm, w9⟩ := (if_neg Bool.false_ne_true).mp q9
        obtain ⟨J9, st9, fr9⟩ := back I9
        exact ⟨m', hm, i + 1, xs, _, H9, J9, st9, fr9, w9⟩
      | true =>
        refine thn (he s3.heap.objs.size s3 (upd H2 s2.heap.objs.size (.lst [])) fp _ s9 _ H9 _ I9 ((if_pos rfl).mp q9)) fun yv sa z => ?_
        obtain ⟨va, Ha, Ia, ra, ea, za, m', hm, wa⟩ := z
        refine thn (mt_append (X := cxN X N' x scope cl s3.heap.objs.size s3 (upd H2 s2.heap.objs.size (.lst [])) fp) _ sa _ Ha (.ref s2.heap.objs.size) [va] (.ref s2.heap.objs.size) [yv]
          (fun _ Hb => W (i + 1) m' (xs ++ [va]) Hb) Ia rfl (.cons ra .nil) ⟨_, xs, va, rfl, rfl, ea, za, wa⟩) fun _ sb z => ?_
        obtain ⟨_, Hb, Ib, _, wb⟩ := z
        obtain ⟨Jb, stb, frb⟩ := back Ib
        exact ⟨m', hm, i + 1, _, _, Hb, Jb, stb, frb, wb⟩
  subst hs3
  exact codeAny_compStart_list loop (T.self _ 0 _ _ _ st4 loop)
end
end L3
namespace L3
open PySem PySem.Spec PyProof.Rows L2
section
variable {X : Cx}
end
end L3
namespace L3
open PySem PySem.Spec PyProof.Rows L2
section
variable {X : Cx} {N' : List Str} {x : Str} {scope : Scope} {cl : List (Str × Addr)} {wi : TI} {tt : TT} {te : TE} {elt iter : Expr} {ifs : List Expr} {px pos : Pos}
end
end L3
namespace L3
open PySem PySem.Spec PyProof.Rows L2
section
variable {X : Cx}
theorem vals_bl : ∀ {bs : List Bool} {us : List Value}, Vals (bs.map V.bl) us → ∀ (i : Nat) (v : Value), us[i]? = some v → ∃ b, bs[i]? = some b ∧ v = .bool b
  | [], _, h => fun i v e => by cases h; simp at e
  | b :: bs, _, h => fun i v e => by
    cases h with
    | cons r t =>
      cases i with
      | zero => simp at e; subst e; cases r; exact ⟨b, rfl, rfl⟩
      | succ i => simpa using vals_bl t i v (by simpa using e)
theorem truth_bl {bs : List Bool} {its : List Value} (d : Bool) (rv : Vals (bs.map V.bl) its) : TruthOf X.prog X.w X.A.in1 (fun i v => its.toArray[i]? = some v) (fun i => (bs[i]?).getD d) := by
  intro j u t R F hu hR
  obtain ⟨b, eb, rfl⟩ := vals_bl rv j u (by simpa using hu)
  dsimp only at hR
  rw [eb] at hR
  exact wpAny_truthy_bool hR
theorem call_all_bl (hc : X.calm = true) : CallR X (.builtin "all") (fun xs H Q => ∃ (p : Addr) (bs : List Bool), xs = [.ref p] ∧ SqL X.K H p (bs.map V.bl) ∧ Q (.bl (bs.all id)) H) := by
  rintro pins s σ H xs us Q I r ⟨p, bs, rfl, hq, q⟩
  obtain ⟨u, rfl, rx⟩ := vals1 r
  cases rx
  obtain ⟨its, rv, pl, _⟩ := I.list hq
  have low : p < s.heap.objs.size := let ⟨_, e, _⟩ := pl.isList; Heap.lt_size e
  have ends : ((List.range its.toArray.size).all fun i => (bs[i]?).getD true) = bs.all id := by
    rw [List.size_toArray, ← rv.length, List.length_map]; exact LSm.range_all bs
  exact call_all_walk (wpAny_pyIter_list pl.isList ⟨_, _, _, _, _, _, _, rfl, Walks.list (A := X.A.in1) (I.ok.hd hc) s.heap.objs.size p (Nat.ne_of_lt low) its.toArray, ⟨⟨_, Heap.get?_push_size _ rfl, rfl, rfl⟩, pl.isList.push _⟩, truth_bl true rv,
    fun _ _ hk => by rw [ends]; exact ⟨.bl _, H, I.kept (LSm.kept_iter hk), rfl, q⟩⟩)
theorem call_any_bl (hc : X.calm = true) : CallR X (.builtin "any") (fun xs H Q => ∃ (p : Addr) (bs : List Bool), xs = [.ref p] ∧ SqL X.K H p (bs.map V.bl) ∧ Q (.bl (bs.any id)) H) := by
  rintro pins s σ H xs us Q I r ⟨p, bs, rfl, hq, q⟩
  obtain ⟨u, rfl, rx⟩ := vals1 r
  cases rx
  obtain ⟨its, rv, pl, _⟩ := I.list hq
  have low : p < s.heap.objs.size := let ⟨_, e, _⟩ := pl.isList; Heap.lt_size e
  have ends : ((List.range its.toArray.size).any fun i => (bs[i]?).getD false) = bs.any id := by
    rw [List.size_toArray, ← rv.length, List.length_map]; exact LSm.range_any bs
  exact call_any_walk (wpAny_pyIter_list pl.isList ⟨_, _, _, _, _, _, _, rfl, Walks.list (A := X.A.in1) (I.ok.hd hc) s.heap.objs.size p (Nat.ne_of_lt low) its.toArray, ⟨⟨_, Heap.get?_push_size _ rfl, rfl, rfl⟩, pl.isList.push _⟩, truth_bl false rv,
    fun _ _ hk => by rw [ends]; exact ⟨.bl _, H, I.kept (LSm.kept_iter hk), rfl, q⟩⟩)
end
end L3
namespace L3
open PySem PySem.Spec PyProof.Rows L2
structure Py (P : Program) (A : Around) (base : Heap) : Prop where
  seer : base.NoSeer
  tree : P.given.tree = none
  dep : A.depth + Builtin.pylongFrames < recursionLimit
  frm : ∀ st, A.frames = some st → ∃ env l, st = env :: l ∧ env.scope.isGenerator = false ∧ env.scope.isCoroutine = false ∧ env.builtins = builtinsNs ∧ env.globals = mainGlobals
end L3
namespace L2
open PySem PySem.Spec PyProof.Rows
end L2
namespace L3
open PySem PySem.Spec PyProof.Rows L2
end L3
namespace L2
open PySem PySem.Spec PyProof.Rows
end L2
namespace L3
open PySem PySem.Spec PyProof.Rows L2
section
variable {X : Cx}
end
end L3
namespace L3
open PySem PySem.Spec PyProof.Rows L2
section
variable {X : Cx}
end
end L3
namespace L3
open PySem PySem.Spec PyProof.Rows L2
section
variable {X : Cx} {tg : Expr}
end
end L3
namespace L3
open PySem PySem.Spec PyProof.Rows L2
abbrev cxC3 (X : Cx) (x x2 x3 : Str) (scope : Scope) (cl : List (Str × Addr)) (C : Addr) (s0 : Shared) (H0 : Hp) (fp : List Addr) : Cx :=
  { X with N := x :: x2 :: x3 :: X.N, s₀ := s0, H₀ := H0, env := compEnvC scope cl C X.env, outer := X.stack, ex := fp, fn := fun _ => false, pn := [], xe := fun _ _ => False }
structure CompOk3 (X : Cx) (x x2 x3 : Str) (scope : Scope) (cl : List (Str × Addr)) : Prop where
  base : CompOk X x scope cl
  tg2 : scope.names.lookup x2 = some .local
  tg3 : scope.names.lookup x3 = some .local
  nd2 : x2 ∉ X.N
  nd3 : x3 ∉ X.N
  ne : x ≠ x2
  ne2 : x ≠ x3
  ne3 : x2 ≠ x3
theorem CompOk3.nodup {X : Cx} {x x2 x3 : Str} {scope : Scope} {cl : List (Str × Addr)} (ok : CompOk3 X x x2 x3 scope cl) (hN : X.N.Nodup) : (x :: x2 :: x3 :: X.N).Nodup :=
  List.nodup_cons.mpr ⟨fun h => (List.mem_cons.mp h).elim ok.ne fun h => (List.mem_cons.mp h).elim ok.ne2 ok.base.nd, List.nodup_cons.mpr ⟨fun h => (List.mem_cons.mp h).elim ok.ne3 ok.nd2, List.nodup_cons.mpr ⟨ok.nd3, hN⟩⟩⟩
def tLC3 (K : PySem.W.Frag) (wi : TI) (tt : TT) (te : TE) : TE := fun σ H Q => wi σ H fun J H1 => ∀ acc, H1 acc = none → ∃ W : Nat → Nat → List V → Hp → Prop, (∃ m, W 0 m [] (upd H1 acc (.lst []))) ∧
  ∀ i m xs H, W i m xs H → H acc = some (.lst xs) ∧ ((J.stop i H ∧ Q (.ref acc) H) ∨ (J.go i H ∧ ∀ y H', J.yld i H y H' → ∃ p va vb vc, y = .ref p ∧ SqT K H' p [va, vb, vc] ∧
    tt (some va :: some vb :: some vc :: σ) H' fun ok H2 => if ok = true then te (some va :: some vb :: some vc :: σ) H2 fun v H3 => H3 acc = some (.lst xs) ∧ xs.length < sizeLine ∧ ∃ m', m' < m ∧ W (i + 1) m' (xs ++ [v]) (upd H3 acc (.lst (xs ++ [v]))) else ∃ m', m' < m ∧ W (i + 1) m' xs H2))
section
variable {X : Cx} {x x2 x3 : Str} {kk : Nat} {py pz pt : Pos} {scope : Scope} {cl : List (Str × Addr)} {wi : TI} {tt : TT} {te : TE} {elt iter : Expr} {ifs : List Expr} {px pos : Pos}
theorem pe_lc3 (ok : CompOk3 X x x2 x3 scope cl) (hN : X.N.Nodup) (hc : X.calm = true) (hi : PI X (.Tuple [.Name x px, .Name x2 py, .Name x3 pz] kk pt) iter wi) (ht : ∀ C s0 H0 fp, PIfs (cxC3 X x x2 x3 scope cl C s0 H0 fp) ifs tt) (he : ∀ C s0 H0 fp, PE (cxC3 X x x2 x3 scope cl C s0 H0 fp) elt te)
    (hf : ∀ v, foldedSetIterable iter X.env v = pure v := by intro _; rfl) : PE X (.ListComp elt [⟨.Tuple [.Name x px, .Name x2 py, .Name x3 pz] kk pt, iter, ifs, 0⟩] scope pos) (tLC3 X.K wi tt te) := by
  intro pins s σ H Q I h
  rw [eval_ListComp]
  refine wpAny_comprehension_free (use := none) rfl hf ok.base.clos ok.base.kind ok.base.names (thn (hi pins s σ H _ I h) fun v s1 h1 => thn h1 fun itv s2 h2 => ?_)
  obtain ⟨it, fp, tn, J, H2, e, I2, T, st2, f2, W⟩ := h2
  subst e
  obtain ⟨W, ⟨m0, w0⟩, turn⟩ := W s2.heap.objs.size (I2.hok.fresh (Nat.le_refl _))
  have I3 : Inv X pins σ (upd H2 s2.heap.objs.size (.lst [])) { s2 with heap := s2.heap.push { cls := .type "list", data := .seq ([] : List Value).toArray } } := I2.lnew (t' := s2.toks) (its := []) .nil (Nat.zero_le _)
  refine wpAny_newObj_type ?_
  generalize hs3 : ({ s2 with heap := s2.heap.push { cls := .type "list", data := .seq ([] : List Value).toArray } } : Shared) = s3 at I3
  have hh3 : s3.heap = s2.heap.push { cls := .type "list", data := .seq ([] : List Value).toArray } := by rw [← hs3]
  refine wpAny_newFunctionEnv ok.base.nocell ((fun y hy => nomatch hy)) (fun h4 ns4 sb4 => ?_) ok.base.kind
  have fpo : ∀ b ∈ fp, ∃ o, s2.heap.get? b = some o := fun b hb => let ⟨o, e, _⟩ := T.obj _ _ st2 b hb; ⟨o, e⟩
  have old : ∀ b o, s3.heap.get? b = some o → h4.get? b = some o := fun b o e => sb4.extBut b o (Nat.ne_of_lt (Heap.lt_size e)) (Heap.get?_push_of_some _ e)
  have fplt : ∀ b ∈ fp, b < s3.heap.objs.size := fun b hb => by
    obtain ⟨o, e⟩ := fpo b hb
    rw [hh3, Heap.size_push]
    exact Nat.lt_succ_of_lt (Heap.lt_size e)
  have fp3 : ∀ b ∈ fp, FpOk X pins (upd H2 s2.heap.objs.size (.lst [])) b := fun b hb => by
    obtain ⟨o, e⟩ := fpo b hb
    refine ⟨?_, (f2 b hb).2⟩
    rw [upd_ne (Nat.ne_of_lt (Heap.lt_size e))]
    exact (f2 b hb).1
  have Cnew : ∀ b o, s3.heap.get? b = some o → b ≠ s3.heap.objs.size := fun b o e => Nat.ne_of_lt (Heap.lt_size e)
  have celln : ∀ y c, X.env.cells.lookup y = some c → c ≠ s3.heap.objs.size := fun y c e => by
    obtain ⟨v, o, ho, _⟩ := I3.cell y c e
    exact Cnew c o ho
  have okC : (cxC3 X x x2 x3 scope cl s3.heap.objs.size s3 (upd H2 s2.heap.objs.size (.lst [])) fp).Ok := by
    refine ⟨I3.ok.mod, ok.base.kind, I3.ok.glob, I3.ok.blt, Nat.le_refl _, fun y z c e1 e2 => I3.ok.inj y z c (ok.base.sub y c e1) (ok.base.sub z c e2), fun y hy => ok.base.has y hy, (fun y c e => nomatch e), I3.ok.hd, I3.ok.frames, .inl rfl, fun b hb => ?_, I3.bs, Nat.le_trans I3.ok.bsz I3.sz, fun b o e hb => ?_, fun b hb hf => ?_, I3.stack, I3.stkFree⟩
    · exact ⟨Nat.ne_of_lt (fplt b hb), fun y c e => (fp3 b hb).2.2.2.2.1 y c (ok.base.sub y c e)⟩
    · rcases (fp3 b hb).2.2.2.1 with z | z
      · exact I3.ok.noex b o e z
      · exact absurd (Nat.lt_of_lt_of_le (Heap.lt_size e) (Nat.le_trans I3.ok.bsz z)) (Nat.lt_irrefl _)
    · rcases List.mem_cons.mp (I3.stkSub b hf) with z | z
      · exact (fp3 b hb).2.1 z
      · exact (fp3 b hb).2.2.1 z
  obtain ⟨m3, hn3, hl3⟩ := I3.loc
  have I4 : Inv (cxC3 X x x2 x3 scope cl s3.heap.objs.size s3 (upd H2 s2.heap.objs.size (.lst [])) fp) [] (none :: none :: none :: σ) (upd H2 s2.heap.objs.size (.lst [])) { s3 with heap := h4, toks := s3.toks + 0 } := by
    refine ⟨okC, rfl, I3.bare, Un.kept old, ⟨_, ns4, fun i y v e1 e2 e3 => ?_⟩, fun y c e => ?_, I3.hok.fresh (Nat.le_refl _), fun y c e => I3.freeC y c (ok.base.sub y c e), (fun p hp => nomatch hp), I3.hok.kept old, ?_⟩
    · cases i with
      | zero => exact nomatch e2
      | succ i =>
       cases i with
       | zero => exact nomatch e2
       | succ i =>
        cases i with
        | zero => exact nomatch e2
        | succ i =>
        have e1' : X.N[i]? = some y := by simpa using e1
        have e2' : σ[i]? = some (some v) := by simpa using e2
        obtain ⟨kc, ko⟩ := ok.base.cellv y (List.mem_of_getElem? e1') e3
        have vis : Vis X.env.scope y := ko.elim (fun z => .inr (.inl z)) fun z => .inr (.inr z)
        obtain ⟨u, r, l⟩ := hl3 i y v e1' e2' vis
        refine ⟨u, r, .inr ⟨kc, ?_⟩⟩
        obtain ⟨c, ec⟩ := ok.base.has y kc
        rcases l with ⟨k, _⟩ | ⟨_, c', ec', z⟩
        · have k' : X.env.scope.names.lookup y = some .local := k
          rcases ko with ko | ko
          · rw [k'] at ko; cases ko
          · rw [k'] at ko; cases ko
        · have e4 := ok.base.sub y c ec
          rw [ec'] at e4; cases e4
          obtain ⟨o, e, d⟩ := z
          exact ⟨c, ec, o, old _ o e, d⟩
    · obtain ⟨v, o, ho, hd⟩ := I3.cell y c (ok.base.sub y c e)
      exact ⟨v, o, old c o ho, hd⟩
    · show (none :: none :: none :: σ).length = (x :: x2 :: x3 :: X.N).length
      rw [List.length_cons, List.length_cons, List.length_cons, List.length_cons, List.length_cons, List.length_cons, I3.len]
  have st4 : tn 0 h4 := T.keep _ _ _ st2 fun b hb o e => old b o (by rw [hh3]; exact Heap.get?_push_of_some _ e)
  have fin : ∀ {σ' : L2.St} {H' : Hp} {s' : Shared}, Inv (cxC3 X x x2 x3 scope cl s3.heap.objs.size s3 (upd H2 s2.heap.objs.size (.lst [])) fp) [] σ' H' s' → Q (.ref s2.heap.objs.size) H' →
      ∃ m, s'.heap.Ns s3.heap.objs.size m ∧ ∀ h', Heap.SameBut s3.heap.objs.size s'.heap h' → EP X pins σ Q (.ref s2.heap.objs.size) { s' with heap := h' } := fun {σ' H' s'} J q => by
    obtain ⟨m, hn, _⟩ := J.loc
    refine ⟨m, hn, fun h' sb => ⟨.ref s2.heap.objs.size, H', ?_, rfl, q⟩⟩
    have hC : H' s3.heap.objs.size = none := J.free
    have un : Un (frs X.stack) fp (upd H2 s2.heap.objs.size (.lst [])) H' s3.heap h' := by
      refine ⟨fun b o e z hb hx => ?_, fun b o e z hb hx => ?_, J.base.free, fun b o e hx => ?_, J.base.tups, J.base.frzs, J.base.tbls⟩
      · exact (sb.2 b (Cnew b o e)).trans (J.base.keep b o e z hb hx)
      · obtain ⟨sl, e1⟩ := J.base.slot b o e z hb hx
        exact ⟨sl, (sb.2 b (Cnew b o e)).trans e1⟩
      · obtain ⟨o', e1⟩ := J.base.there b o e hx
        exact ⟨o', (sb.2 b (Cnew b o e)).trans e1⟩
    have hok : HOk X.prog X.w H' h' := fun b ob e => by
      refine (J.hok b ob e).stay (fun c w' hc q => (sb.2 c ?_).trans q) (fun _ q => q) fun _ _ q => q
      intro z
      subst z
      rcases hc with hc | hc
      · rw [← hc, hC] at e; cases e
      · rw [hC] at hc; cases hc
    refine I3.call' (s' := { s' with heap := h' }) (ch := fp) J.os un hok J.bare fun b hb => ?_
    obtain ⟨_, h2, _, h4, h5, h6⟩ := fp3 b hb
    exact ⟨h4, h2, h5, h6⟩
  have stat : ∀ {H' : Hp}, (∀ b ∈ fp, H' b = none) → ∀ b ∈ fp, FpOk (cxC3 X x x2 x3 scope cl s3.heap.objs.size s3 (upd H2 s2.heap.objs.size (.lst [])) fp) [] H' b := fun hn b hb =>
    ⟨hn b hb, (okC.exf b hb).1, okC.exfs b hb, .inl hb, (okC.exf b hb).2, (fun p hp => nomatch hp)⟩
  have loop : codeAny (model X.prog X.w) X.A (.compLoop (.ListComp elt [⟨.Tuple [.Name x px, .Name x2 py, .Name x3 pz] kk pt, iter, ifs, 0⟩] scope pos) 0 (.ref it) (.ref s2.heap.objs.size) (compEnvC scope cl s3.heap.objs.size X.env))
      (compPost (model X.prog X.w) X.A X.xe none (EP X pins σ Q) (.ref s2.heap.objs.size) s3.heap.objs.size) { s3 with heap := h4, toks := s3.toks + 0 } := by
    refine comp_loop (fun n s' => ∃ i xs t t2 t3 H', Inv (cxC3 X x x2 x3 scope cl s3.heap.objs.size s3 (upd H2 s2.heap.objs.size (.lst [])) fp) [] (t :: t2 :: t3 :: σ) H' s' ∧ tn i s'.heap ∧ (∀ b ∈ fp, H' b = none) ∧ W i n xs H') ?_ m0 ⟨0, [], none, none, none, _, I4, st4, fun b hb => (fp3 b hb).1, w0⟩
    rintro n s5 ⟨i, xs, t, t2, t3, H5, I5, st5, fr5, w5⟩
    obtain ⟨hacc, alt⟩ := turn i n xs H5 w5
    rcases alt with ⟨stop, qn⟩ | ⟨go, step⟩
    · refine thn (T.done (cxC3 X x x2 x3 scope cl s3.heap.objs.size s3 (upd H2 s2.heap.objs.size (.lst [])) fp) rfl rfl rfl hc i [] s5 _ H5 _ I5 (stat fr5) st5 stop) fun r s6 z => ?_
      obtain ⟨hr, I6⟩ := z
      subst hr
      exact fin I6 qn
    · refine thn (T.item (cxC3 X x x2 x3 scope cl s3.heap.objs.size s3 (upd H2 s2.heap.objs.size (.lst [])) fp) rfl rfl rfl hc i [] s5 _ H5 _ I5 (stat fr5) st5 go) fun r s6 z => ?_
      obtain ⟨u, hr, h6⟩ := z
      subst hr
      refine thn h6 fun _ s7 z => ?_
      obtain ⟨y, H7, I7, r7, y7, st7, fr7⟩ := z
      have I7' := I7.pinned (stat fr7) (T.obj _ _ st7)
      have back : ∀ {t8 t9 ta : Option V} {H8 : Hp} {s8 : Shared}, Inv (cxC3 X x x2 x3 scope cl s3.heap.objs.size s3 (upd H2 s2.heap.objs.size (.lst [])) fp) ([] ++ pinsAt fp s7.heap) (t8 :: t9 :: ta :: σ) H8 s8 →
          Inv (cxC3 X x x2 x3 scope cl s3.heap.objs.size s3 (upd H2 s2.heap.objs.size (.lst [])) fp) [] (t8 :: t9 :: ta :: σ) H8 s8 ∧ tn (i + 1) s8.heap ∧ ∀ b ∈ fp, H8 b = none := fun {t8 t9 ta H8 s8} I8 => by
        refine ⟨I8.unpinned, T.keep _ _ _ st7 fun b hb o e => (I8.pin (b, o) (List.mem_append_right _ (List.mem_append_right _ (mem_pinsAt hb e)))).1, fun b hb => ?_⟩
        obtain ⟨o, e, d⟩ := T.obj _ _ st7 b hb
        exact (I8.pin (b, o) (List.mem_append_right _ (List.mem_append_right _ (mem_pinsAt hb e)))).2.1
      obtain ⟨pp, va1, vb1, vc1, rfl, hsq, step1⟩ := step y _ y7
      have nd2 : (cxC3 X x x2 x3 scope cl s3.heap.objs.size s3 (upd H2 s2.heap.objs.size (.lst [])) fp).N.Nodup := ok.nodup hN
      have pgt : PG (cxC3 X x x2 x3 scope cl s3.heap.objs.size s3 (upd H2 s2.heap.objs.size (.lst [])) fp) (.Tuple [.Name x px, .Name x2 py, .Name x3 pz] kk pt) (gTup X.K 3 (gCons (gName 0) (gCons (gName 1) (gCons (gName 2) gNil)))) :=
        pg_tup (X := cxC3 X x x2 x3 scope cl s3.heap.objs.size s3 (upd H2 s2.heap.objs.size (.lst [])) fp) hc (pgs_cons (pg_name (i := 0) nd2 rfl (Or.inl (lookup_relabel_local ok.base.tgt)) (.inr (lookup_relabel_local ok.base.tgt))) (pgs_cons (pg_name (i := 1) nd2 rfl (Or.inl (lookup_relabel_local ok.tg2)) (.inr (lookup_relabel_local ok.tg2))) (pgs_cons (pg_name (i := 2) nd2 rfl (Or.inl (lookup_relabel_local ok.tg3)) (.inr (lookup_relabel_local ok.tg3))) pgs_nil)))
      refine thn (pgt _ s7 _ H7 _ u (fun σ8 H8 => σ8 = some va1 :: some vb1 :: some vc1 :: σ ∧ H8 = H7) I7' r7 ⟨pp, [va1, vb1, vc1], rfl, hsq, rfl, va1, [vb1, vc1], rfl, vb1, [vc1], rfl, vc1, [], rfl, rfl, rfl, rfl⟩) fun _ s8 z => ?_
      obtain ⟨σ8, H8, I8, e8, e8'⟩ := z
      subst e8 e8'
      refine thn (ht s3.heap.objs.size s3 (upd H2 s2.heap.objs.size (.lst [])) fp _ s8 _ _ _ I8 step1) fun b9 s9 z => ?_
      obtain ⟨H9, I9, q9⟩ := z
      cases b9 with
      | false =>
        obtain ⟨m', hm, w9⟩ := (if_neg Bool.false_ne_true).mp q9
        obtain ⟨J9, st9, fr9⟩ := back I9
        exact ⟨m', hm, i + 1, xs, _, _, _, H9, J9, st9, fr9, w9⟩
      | true =>
        refine thn (he s3.heap.objs.size s3 (upd H2 s2.heap.objs.size (.lst [])) fp _ s9 _ H9 _ I9 ((if_pos rfl).mp q9)) fun yv sa z => ?_
        obtain ⟨va, Ha, Ia, ra, ea, za, m', hm, wa⟩ := z
        refine thn (mt_append (X := cxC3 X x x2 x3 scope cl s3.heap.objs.size s3 (upd H2 s2.heap.objs.size (.lst [])) fp) _ sa _ Ha (.ref s2.heap.objs.size) [va] (.ref s2.heap.objs.size) [yv]
          (fun _ Hb => W (i + 1) m' (xs ++ [va]) Hb) Ia rfl (.cons ra .nil) ⟨_, xs, va, rfl, rfl, ea, za, wa⟩) fun _ sb z => ?_
        obtain ⟨_, Hb, Ib, _, wb⟩ := z
        obtain ⟨Jb, stb, frb⟩ := back Ib
        exact ⟨m', hm, i + 1, _, _, _, _, Hb, Jb, stb, frb, wb⟩
  subst hs3
  exact codeAny_compStart_list loop (T.self _ 0 _ _ _ st4 loop)
end
end L3
namespace D3
open PySem PySem.Spec PyProof.Rows L2 L3
inductive Ex where
  | BelowError | NoNumber | NoCurve | TooGreat | NoStretch | NoNear | NoPieces | NoText | NoRow | NoName | fnA | fnB
  deriving DecidableEq
def isFn : Ex → Bool
  | .fnA => true
  | .fnB => true
  | _ => false
class Ecx where
  at_ : Ex → Addr
abbrev ecx [Ecx] (n : Ex) : Addr := Ecx.at_ n
inductive Sl where
  | no
  | dat (d : PyData)
  | own (ds : List PyData)
  | exc (C : Ex)
  | prs (o : Option (List PyData × List PyData))
inductive Rz where
  | dat (d : PyData)
  | new (ds : List PyData)
  | use (d : PyData)
  | var (ds : List PyData)
  | exc (C : Ex)
def Rz.d? : Rz → Option PyData
  | .dat d => some d
  | .new ds => some (.list ds)
  | .use d => some d
  | .var ds => some (.list ds)
  | .exc _ => none
inductive Res (α : Type) where
  | ok (a : α)
  | err (C : Ex)
abbrev M (α : Type) := Option (Res α)
def bnd {α β : Type} (m : M α) (k : α → M β) : M β :=
  match m with
  | some (.ok a) => k a
  | some (.err C) => some (.err C)
  | none => none
def okM {α : Type} (a : α) : M α := some (.ok a)
theorem bnd_okM {α β : Type} (a : α) (k : α → M β) : bnd (okM a) k = k a := rfl
theorem bnd_inv {α β : Type} {m : M α} {k : α → M β} {r : Res β} (h : bnd m k = some r) : (∃ a, m = some (.ok a) ∧ k a = some r) ∨ ∃ C, m = some (.err C) ∧ r = .err C := by
  cases m with
  | none => exact nomatch h
  | some m =>
    cases m with
    | ok a => exact .inl ⟨a, rfl, h⟩
    | err C => exact .inr ⟨C, rfl, (Option.some.inj h).symm⟩
def hid (H : Hp) (S : Addr → Bool) : Hp := fun b => if S b = true then none else H b
theorem hid_f {H : Hp} {S : Addr → Bool} {b : Addr} (h : S b = false) : hid H S b = H b := by unfold hid; rw [h]; rfl
theorem hid_t {H : Hp} {S : Addr → Bool} {b : Addr} (h : S b = true) : hid H S b = none := by unfold hid; rw [h]; rfl
theorem hid_up {H : Hp} {S : Addr → Bool} : Same (hid H S) H := fun b o h => by
  by_cases c : S b = true
  · rw [hid_t c] at h; cases h
  · rw [hid_f (by simpa using c)] at h; exact h
theorem same_hid {H H' : Hp} {S : Addr → Bool} (g : Same H H') : Same (hid H S) (hid H' S) := fun b o h => by
  by_cases c : S b = true
  · rw [hid_t c] at h; cases h
  · rw [hid_f (by simpa using c)] at h ⊢; exact g b o h
structure Ext (H : Hp) (S : Addr → Bool) (H' : Hp) (S' : Addr → Bool) : Prop where
  up : Same H H'
  hd : Same (hid H S) (hid H' S')
  sub : ∀ b, S b = true → S' b = true
  new : ∀ b, S' b = true → S b = true ∨ (H b = none ∧ ∃ xs, H' b = some (.lst xs))
theorem Ext.refl {H : Hp} {S : Addr → Bool} : Ext H S H S := ⟨Same.refl _, Same.refl _, fun _ h => h, fun _ h => .inl h⟩
theorem Ext.same {H H' : Hp} {S : Addr → Bool} (g : Same H H') : Ext H S H' S := ⟨g, same_hid g, fun _ h => h, fun _ h => .inl h⟩
theorem Ext.trans {H H1 H2 : Hp} {S S1 S2 : Addr → Bool} (a : Ext H S H1 S1) (b : Ext H1 S1 H2 S2) : Ext H S H2 S2 :=
  ⟨a.up.trans b.up, a.hd.trans b.hd, fun c h => b.sub c (a.sub c h), fun c h => by
    rcases b.new c h with h | ⟨h, xs, e⟩
    · rcases a.new c h with h | ⟨h, xs, e⟩
      · exact .inl h
      · exact .inr ⟨h, xs, b.up _ _ e⟩
    · exact .inr ⟨a.up.free h, xs, e⟩⟩
def ins (S : Addr → Bool) (a : Addr) : Addr → Bool := fun b => if b = a then true else S b
def del (S : Addr → Bool) (a : Addr) : Addr → Bool := fun b => if b = a then false else S b
theorem ins_same {S : Addr → Bool} {a : Addr} : ins S a a = true := by unfold ins; rw [if_pos rfl]
theorem ins_ne {S : Addr → Bool} {a b : Addr} (h : b ≠ a) : ins S a b = S b := by unfold ins; rw [if_neg h]
theorem del_same {S : Addr → Bool} {a : Addr} : del S a a = false := by unfold del; rw [if_pos rfl]
theorem del_ne {S : Addr → Bool} {a b : Addr} (h : b ≠ a) : del S a b = S b := by unfold del; rw [if_neg h]
theorem hid_ins {H : Hp} {S : Addr → Bool} {a : Addr} {o : HO} (h : H a = none) : hid (upd H a o) (ins S a) = hid H S := by
  funext b
  by_cases c : b = a
  · subst c
    rw [hid_t ins_same]
    cases e : S b with
    | true => rw [hid_t e]
    | false => rw [hid_f e, h]
  · cases e : S b with
    | true => rw [hid_t e, hid_t (by rw [ins_ne c]; exact e)]
    | false => rw [hid_f e, hid_f (by rw [ins_ne c]; exact e), upd_ne c]
theorem hid_mut {H : Hp} {S : Addr → Bool} {a : Addr} {o : HO} (h : S a = true) : hid (upd H a o) S = hid H S := by
  funext b
  cases e : S b with
  | true => rw [hid_t e, hid_t e]
  | false => rw [hid_f e, hid_f e, upd_ne (by intro z; subst z; rw [h] at e; cases e)]
theorem Ext.ins {H : Hp} {S : Addr → Bool} {a : Addr} {xs : List V} (h : H a = none) : Ext H S (upd H a (.lst xs)) (ins S a) :=
  ⟨same_new h _, by rw [hid_ins h]; exact Same.refl _, fun b hb => by
    unfold D3.ins; split
    · rfl
    · exact hb, fun b hb => by
    by_cases c : b = a
    · subst c; exact .inr ⟨h, xs, upd_same⟩
    · rw [ins_ne c] at hb; exact .inl hb⟩
theorem same_del {H : Hp} {S : Addr → Bool} {a : Addr} : Same (hid H S) (hid H (del S a)) := fun b o h => by
  by_cases c : b = a
  · subst c; rw [hid_f del_same]; exact hid_up _ _ h
  · cases e : S b with
    | true => rw [hid_t e] at h; cases h
    | false => rw [hid_f e] at h; rw [hid_f (by rw [del_ne c]; exact e)]; exact h
variable [Ecx]
def ExAt (H : Hp) (ea : Addr) (C : Ex) : Prop := (isFn C = false ∧ H ea = some (excO ea (.ref (ecx C)))) ∨ (isFn C = true ∧ ea = ecx C)
theorem ExAt.same {H H' : Hp} {ea : Addr} {C : Ex} (g : Same H H') (h : ExAt H ea C) : ExAt H' ea C := by
  rcases h with ⟨a, b⟩ | h
  · exact .inl ⟨a, g _ _ b⟩
  · exact .inr h
theorem ExAt.real {H : Hp} {ea : Addr} {C : Ex} (h : ExAt H ea C) (n : isFn C = false) : H ea = some (excO ea (.ref (ecx C))) := by
  rcases h with ⟨a, b⟩ | ⟨a, b⟩
  · exact b
  · rw [a] at n; cases n
def RV (K : PySem.W.Frag) (H H' : Hp) (S' : Addr → Bool) (v : V) : Rz → Prop
  | .dat d => DV K (hid H' S') v d
  | .new ds => ∃ a xs, v = .ref a ∧ S' a = true ∧ H a = none ∧ H' a = some (.lst xs) ∧ DVs K (hid H' S') xs ds
  | .use d => DV K H' v d
  | .var ds => ∃ a xs, v = .ref a ∧ S' a = true ∧ H' a = some (.lst xs) ∧ DVs K (hid H' S') xs ds
  | .exc C => ∃ ea, v = .ref ea ∧ ExAt (hid H' S') ea C
theorem RV.full {K : PySem.W.Frag} {H H' : Hp} {S' : Addr → Bool} {v : V} {r : Rz} {d : PyData} (h : RV K H H' S' v r) (e : r.d? = some d) : DV K H' v d := by
  cases r with
  | dat x => cases e; exact DV.same hid_up h
  | new ds =>
    cases e
    obtain ⟨a, xs, rfl, _, _, ha, hx⟩ := h
    exact .lst (SqL.of ha) (DVs.same hid_up hx)
  | use x => cases e; exact h
  | var ds =>
    cases e
    obtain ⟨a, xs, rfl, _, ha, hx⟩ := h
    exact .lst (SqL.of ha) (DVs.same hid_up hx)
  | exc C => exact nomatch e
theorem RV.ext {K : PySem.W.Frag} {H H1 H2 : Hp} {S1 S2 : Addr → Bool} {v : V} {r : Rz} (h : RV K H H1 S1 v r) (g : Ext H1 S1 H2 S2) : RV K H H2 S2 v r := by
  cases r with
  | dat x => exact DV.same g.hd h
  | new ds =>
    obtain ⟨a, xs, e, z, n, ha, hx⟩ := h
    exact ⟨a, xs, e, g.sub a z, n, g.up _ _ ha, DVs.same g.hd hx⟩
  | use x => exact DV.same g.up h
  | var ds =>
    obtain ⟨a, xs, e, z, ha, hx⟩ := h
    exact ⟨a, xs, e, g.sub a z, g.up _ _ ha, DVs.same g.hd hx⟩
  | exc C =>
    obtain ⟨ea, e, z⟩ := h
    exact ⟨ea, e, ExAt.same g.hd z⟩
theorem RV.back {K : PySem.W.Frag} {H H1 H2 : Hp} {S1 S2 : Addr → Bool} {v : V} {r : Rz} (g : Ext H S1 H1 S2) {S' : Addr → Bool} (h : RV K H1 H2 S' v r) : RV K H H2 S' v r := by
  cases r with
  | dat x => exact h
  | new ds =>
    obtain ⟨a, xs, e, z, n, ha, hx⟩ := h
    exact ⟨a, xs, e, z, g.up.free n, ha, hx⟩
  | use x => exact h
  | var ds => exact h
  | exc C => exact h
def Kid (G : Hp) (σ : L2.St) (δ : List Sl) (i : Nat) (a : Addr) : Prop :=
  ∃ o c x y, δ[i]? = some (Sl.prs o) ∧ σ[i]? = some (some (V.ref c)) ∧ G c = some (.tup [.ref x, .ref y]) ∧ (a = x ∨ a = y)
structure Loc (K : PySem.W.Frag) (H0 : Hp) (σ : L2.St) (H : Hp) (δ : List Sl) (S : Addr → Bool) : Prop where
  old : Same H0 H
  frs : ∀ b, S b = true → H0 b = none
  lst : ∀ b, S b = true → ∃ xs, H b = some (.lst xs)
  len : σ.length = δ.length
  dat : ∀ (i : Nat) (d : PyData), δ[i]? = some (Sl.dat d) → ∃ v, σ[i]? = some (some v) ∧ DV K (hid H S) v d
  exc : ∀ (i : Nat) (C : Ex), δ[i]? = some (Sl.exc C) → ∃ ea : Addr, σ[i]? = some (some (.ref ea)) ∧ ExAt (hid H S) ea C
  own : ∀ (i : Nat) (ds : List PyData), δ[i]? = some (Sl.own ds) → ∃ (a : Addr) (xs : List V), σ[i]? = some (some (.ref a)) ∧ S a = true ∧ H a = some (.lst xs) ∧ DVs K (hid H S) xs ds
  one : ∀ (i j : Nat) (ds es : List PyData) (a : Addr), δ[i]? = some (Sl.own ds) → δ[j]? = some (Sl.own es) → σ[i]? = some (some (.ref a)) → σ[j]? = some (some (.ref a)) → i = j
  two : ∀ (i : Nat) (o : Option (List PyData × List PyData)), δ[i]? = some (Sl.prs o) → ∃ (c a b : Addr) (xs ys : List V), σ[i]? = some (some (.ref c)) ∧ hid H S c = some (.tup [.ref a, .ref b]) ∧ S a = true ∧ S b = true ∧
    H a = some (.lst xs) ∧ H b = some (.lst ys) ∧ ∀ ds es, o = some (ds, es) → DVs K (hid H S) xs ds ∧ DVs K (hid H S) ys es
  sep : ∀ (i j : Nat) (ds : List PyData) (a : Addr), Kid (hid H S) σ δ i a → δ[j]? = some (Sl.own ds) → σ[j]? ≠ some (some (.ref a))
  sop : ∀ (i j : Nat) (a : Addr), Kid (hid H S) σ δ i a → Kid (hid H S) σ δ j a → i = j
section
variable {K : PySem.W.Frag} {H0 H H' : Hp} {σ : L2.St} {δ : List Sl} {S S' : Addr → Bool}
theorem Loc.kidBack {G : Hp} {i : Nat} {a : Addr} (L : Loc K H0 σ H δ S) (g : Same (hid H S) G) (k : Kid G σ δ i a) : Kid (hid H S) σ δ i a := by
  obtain ⟨o, c, x, y, e1, e2, e3, e4⟩ := k
  obtain ⟨c', a', b', xs, ys, q1, q2, _⟩ := L.two i o e1
  rw [e2] at q1; cases q1
  have := g _ _ q2
  rw [e3] at this; cases this
  exact ⟨o, c, _, _, e1, e2, q2, e4⟩
theorem Loc.kidIn {i : Nat} {a : Addr} (L : Loc K H0 σ H δ S) (k : Kid (hid H S) σ δ i a) : S a = true := by
  obtain ⟨o, c, x, y, e1, e2, e3, e4⟩ := k
  obtain ⟨c', a', b', xs, ys, q1, q2, q3, q4, _⟩ := L.two i o e1
  rw [e2] at q1; cases q1
  rw [e3] at q2; cases q2
  rcases e4 with rfl | rfl
  · exact q3
  · exact q4
theorem Loc.kids {S1 : Addr → Bool} (L : Loc K H0 σ H δ S) (g : Ext H S H' S1) : ∀ (j : Nat) (b : Addr), Kid (hid H' S1) σ δ j b → H b ≠ none := fun j b k z => by
  obtain ⟨xs, e⟩ := L.lst b (L.kidIn (L.kidBack g.hd k))
  rw [z] at e; cases e
theorem Kid.mk' {G : Hp} {i : Nat} {o : Option (List PyData × List PyData)} {c a b : Addr} (e1 : δ[i]? = some (Sl.prs o)) (e2 : σ[i]? = some (some (V.ref c))) (e3 : G c = some (.tup [.ref a, .ref b])) : Kid G σ δ i a ∧ Kid G σ δ i b :=
  ⟨⟨o, c, a, b, e1, e2, e3, .inl rfl⟩, ⟨o, c, a, b, e1, e2, e3, .inr rfl⟩⟩
theorem Loc.ext (L : Loc K H0 σ H δ S) (g : Ext H S H' S') : Loc K H0 σ H' δ S' := by
  refine ⟨L.old.trans g.up, fun b h => ?_, fun b h => ?_, L.len, fun i d e => ?_, fun i C e => ?_, fun i ds e => ?_, L.one, fun i o e => ?_, fun i j ds a k => L.sep i j ds a (L.kidBack g.hd k), fun i j a k k' => L.sop i j a (L.kidBack g.hd k) (L.kidBack g.hd k')⟩
  · rcases g.new b h with h | ⟨h, _⟩
    · exact L.frs b h
    · exact L.old.free h
  · rcases g.new b h with h | ⟨_, h⟩
    · obtain ⟨xs, e⟩ := L.lst b h
      exact ⟨xs, g.up _ _ e⟩
    · exact h
  · obtain ⟨v, e1, e2⟩ := L.dat i d e
    exact ⟨v, e1, DV.same g.hd e2⟩
  · obtain ⟨v, e1, e2⟩ := L.exc i C e
    exact ⟨v, e1, ExAt.same g.hd e2⟩
  · obtain ⟨a, xs, e1, e2, e3, e4⟩ := L.own i ds e
    exact ⟨a, xs, e1, g.sub _ e2, g.up _ _ e3, DVs.same g.hd e4⟩
  · obtain ⟨c, a, b, xs, ys, q1, q2, q3, q4, q5, q6, q7⟩ := L.two i o e
    exact ⟨c, a, b, xs, ys, q1, g.hd _ _ q2, g.sub _ q3, g.sub _ q4, g.up _ _ q5, g.up _ _ q6, fun ds es z => ⟨DVs.same g.hd (q7 ds es z).1, DVs.same g.hd (q7 ds es z).2⟩⟩
theorem Loc.ground (L : Loc K H0 σ H δ S) : Loc K (hid H S) σ H δ S := ⟨hid_up, fun _ h => hid_t h, L.lst, L.len, L.dat, L.exc, L.own, L.one, L.two, L.sep, L.sop⟩
theorem Loc.base (L : Loc K H0 σ H δ S) : Same H0 (hid H S) := fun b o h => by
  cases e : S b with
  | true => rw [L.frs b e] at h; cases h
  | false => rw [hid_f e]; exact L.old b o h
theorem set_get {α : Type} {xs : List α} {i j : Nat} {v w : α} (h : (xs.set i v)[j]? = some w) : (i = j ∧ w = v ∧ i < xs.length) ∨ (i ≠ j ∧ xs[j]? = some w) := by
  rw [List.getElem?_set] at h
  split at h
  · rename_i e
    split at h
    · exact .inl ⟨e, (Option.some.inj h).symm, by assumption⟩
    · cases h
  · rename_i e; exact .inr ⟨e, h⟩
theorem Kid.unset {G : Hp} {i j : Nat} {o : Option V} {s : Sl} {a : Addr} (hp : ∀ q, s ≠ .prs q) (k : Kid G (σ.set i o) (δ.set i s) j a) : i ≠ j ∧ Kid G σ δ j a := by
  obtain ⟨q, c, x, y, e1, e2, e3, e4⟩ := k
  rcases set_get e1 with ⟨_, e, _⟩ | ⟨hne, e⟩
  · exact absurd e.symm (hp q)
  · rw [List.getElem?_set_ne hne] at e2
    exact ⟨hne, q, c, x, y, e, e2, e3, e4⟩
theorem Kid.unset' {G : Hp} {i j : Nat} {s : Sl} {a : Addr} (hp : ∀ q, s ≠ .prs q) (k : Kid G σ (δ.set i s) j a) : i ≠ j ∧ Kid G σ δ j a := by
  obtain ⟨q, c, x, y, e1, e2, e3, e4⟩ := k
  rcases set_get e1 with ⟨_, e, _⟩ | ⟨hne, e⟩
  · exact absurd e.symm (hp q)
  · exact ⟨hne, q, c, x, y, e, e2, e3, e4⟩
theorem Loc.put {i : Nat} {o : Option V} {s : Sl} (L : Loc K H0 σ H δ S) (hs : ∀ ds, s ≠ .own ds) (hd : ∀ d, s = .dat d → ∃ v, o = some v ∧ DV K (hid H S) v d)
    (hx : ∀ C, s = .exc C → ∃ ea, o = some (.ref ea) ∧ ExAt (hid H S) ea C) (hp : ∀ q, s ≠ .prs q := by intro q z; cases z) : Loc K H0 (σ.set i o) H (δ.set i s) S := by
  refine ⟨L.old, L.frs, L.lst, by rw [List.length_set, List.length_set]; exact L.len, fun j d e => ?_, fun j C e => ?_, fun j ds e => ?_, fun j k ds es a e1 e2 e3 e4 => ?_, fun j q e => ?_, fun j k ds a kd e => ?_, fun j k a kd kd' => L.sop j k a (kd.unset hp).2 (kd'.unset hp).2⟩
  · rcases set_get e with ⟨rfl, e, hl⟩ | ⟨hne, e⟩
    · obtain ⟨v, rfl, q⟩ := hd d e.symm
      exact ⟨v, by rw [List.getElem?_set_self (by rw [L.len]; exact hl)], q⟩
    · obtain ⟨v, e1, q⟩ := L.dat j d e
      exact ⟨v, by rw [List.getElem?_set_ne hne]; exact e1, q⟩
  · rcases set_get e with ⟨rfl, e, hl⟩ | ⟨hne, e⟩
    · obtain ⟨v, rfl, q⟩ := hx C e.symm
      exact ⟨v, by rw [List.getElem?_set_self (by rw [L.len]; exact hl)], q⟩
    · obtain ⟨v, e1, q⟩ := L.exc j C e
      exact ⟨v, by rw [List.getElem?_set_ne hne]; exact e1, q⟩
  · rcases set_get e with ⟨rfl, e, hl⟩ | ⟨hne, e⟩
    · exact absurd e.symm (hs ds)
    · obtain ⟨a, xs, e1, q⟩ := L.own j ds e
      exact ⟨a, xs, by rw [List.getElem?_set_ne hne]; exact e1, q⟩
  · rcases set_get e1 with ⟨_, e, _⟩ | ⟨n1, e1⟩
    · exact absurd e.symm (hs ds)
    · rcases set_get e2 with ⟨_, e, _⟩ | ⟨n2, e2⟩
      · exact absurd e.symm (hs es)
      · rw [List.getElem?_set_ne n1] at e3
        rw [List.getElem?_set_ne n2] at e4
        exact L.one j k ds es a e1 e2 e3 e4
  · rcases set_get e with ⟨_, e, _⟩ | ⟨hne, e⟩
    · exact absurd e.symm (hp q)
    · rw [List.getElem?_set_ne hne]; exact L.two j q e
  · rcases set_get e with ⟨_, e, _⟩ | ⟨hne, e⟩
    · exact absurd e.symm (hs ds)
    · rw [List.getElem?_set_ne hne]; exact L.sep j k ds a (kd.unset hp).2 e
theorem Loc.putOwn {i : Nat} {a : Addr} {xs : List V} {ds : List PyData} (L : Loc K H0 σ H δ S) (hS : S a = true) (ha : H a = some (.lst xs)) (hx : DVs K (hid H S) xs ds)
    (hn : ∀ (j : Nat) (es : List PyData), δ[j]? = some (Sl.own es) → σ[j]? ≠ some (some (V.ref a))) (hk : ∀ j, ¬ Kid (hid H S) σ δ j a) : Loc K H0 (σ.set i (some (.ref a))) H (δ.set i (.own ds)) S := by
  have hp : ∀ q, Sl.own ds ≠ .prs q := fun q z => nomatch z
  refine ⟨L.old, L.frs, L.lst, by rw [List.length_set, List.length_set]; exact L.len, fun j d e => ?_, fun j C e => ?_, fun j ds' e => ?_, fun j k ds1 es b e1 e2 e3 e4 => ?_, fun j q e => ?_, fun j k ds b kd e => ?_, fun j k b kd kd' => L.sop j k b (kd.unset hp).2 (kd'.unset hp).2⟩
  · rcases set_get e with ⟨rfl, e, hl⟩ | ⟨hne, e⟩
    · cases e
    · obtain ⟨v, e1, q⟩ := L.dat j d e
      exact ⟨v, by rw [List.getElem?_set_ne hne]; exact e1, q⟩
  · rcases set_get e with ⟨rfl, e, hl⟩ | ⟨hne, e⟩
    · cases e
    · obtain ⟨v, e1, q⟩ := L.exc j C e
      exact ⟨v, by rw [List.getElem?_set_ne hne]; exact e1, q⟩
  · rcases set_get e with ⟨rfl, e, hl⟩ | ⟨hne, e⟩
    · cases e
      exact ⟨a, xs, by rw [List.getElem?_set_self (by rw [L.len]; exact hl)], hS, ha, hx⟩
    · obtain ⟨b, ys, e1, q⟩ := L.own j ds' e
      exact ⟨b, ys, by rw [List.getElem?_set_ne hne]; exact e1, q⟩
  · rcases set_get e1 with ⟨h1, f1, l1⟩ | ⟨n1, f1⟩
    · subst h1
      rw [List.getElem?_set_self (by rw [L.len]; exact l1)] at e3
      cases e3
      rcases set_get e2 with ⟨h2, f2, l2⟩ | ⟨n2, f2⟩
      · exact h2
      · rw [List.getElem?_set_ne n2] at e4
        exact absurd e4 (hn k es f2)
    · rw [List.getElem?_set_ne n1] at e3
      rcases set_get e2 with ⟨h2, f2, l2⟩ | ⟨n2, f2⟩
      · subst h2
        rw [List.getElem?_set_self (by rw [L.len]; exact l2)] at e4
        cases e4
        exact absurd e3 (hn j ds1 f1)
      · rw [List.getElem?_set_ne n2] at e4
        exact L.one j k ds1 es b f1 f2 e3 e4
  · rcases set_get e with ⟨_, e, _⟩ | ⟨hne, e⟩
    · cases e
    · rw [List.getElem?_set_ne hne]; exact L.two j q e
  · have kd := (kd.unset hp).2
    rcases set_get e with ⟨h1, e, l1⟩ | ⟨hne, e⟩
    · subst h1
      rw [List.getElem?_set_self (by rw [L.len]; exact l1)]
      intro z; cases z
      exact hk j kd
    · rw [List.getElem?_set_ne hne]; exact L.sep j k ds b kd e
theorem Loc.mut {i : Nat} {a : Addr} {ds ds' : List PyData} {xs' : List V} (L : Loc K H0 σ H δ S) (hi : δ[i]? = some (.own ds)) (ha : σ[i]? = some (some (.ref a))) (hx : DVs K (hid H S) xs' ds') :
    Loc K H0 σ (upd H a (.lst xs')) (δ.set i (.own ds')) S := by
  obtain ⟨a', xs, e1, hS, hH, _⟩ := L.own i ds hi
  rw [ha] at e1; cases e1
  have hh := hid_mut (H := H) (o := .lst xs') hS
  have hp : ∀ q, Sl.own ds' ≠ .prs q := fun q z => nomatch z
  have hq : ∀ (j : Nat) (es : List PyData), (δ.set i (.own ds'))[j]? = some (Sl.own es) → ∃ ds2, δ[j]? = some (.own ds2) := fun j es e => by
    rcases set_get e with ⟨rfl, _, _⟩ | ⟨_, e⟩
    · exact ⟨_, hi⟩
    · exact ⟨_, e⟩
  refine ⟨fun b o h => ?_, L.frs, fun b h => ?_, by rw [List.length_set]; exact L.len, fun j d e => ?_, fun j C e => ?_, fun j es e => ?_, fun j k ds1 es b e1 e2 e3 e4 => ?_, fun j q e => ?_, fun j k ds b kd e => ?_, fun j k b kd kd' => ?_⟩
  · have : b ≠ a := by intro z; subst z; rw [L.frs b hS] at h; cases h
    rw [upd_ne this]; exact L.old b o h
  · by_cases c : b = a
    · subst c; exact ⟨xs', upd_same⟩
    · rw [upd_ne c]; exact L.lst b h
  · rw [hh]
    rcases set_get e with ⟨rfl, e, hl⟩ | ⟨hne, e⟩
    · cases e
    · exact L.dat j d e
  · rw [hh]
    rcases set_get e with ⟨rfl, e, hl⟩ | ⟨hne, e⟩
    · cases e
    · exact L.exc j C e
  · rw [hh]
    rcases set_get e with ⟨rfl, e, hl⟩ | ⟨hne, e⟩
    · cases e
      exact ⟨a, xs', ha, hS, upd_same, hx⟩
    · obtain ⟨b, ys, q1, q2, q3, q4⟩ := L.own j es e
      have : b ≠ a := by
        intro z; subst z
        exact hne (L.one i j ds es b hi e ha q1)
      exact ⟨b, ys, q1, q2, by rw [upd_ne this]; exact q3, q4⟩
  · have f1 : ∃ ds2, δ[j]? = some (.own ds2) := by
      rcases set_get e1 with ⟨rfl, _, _⟩ | ⟨_, e⟩
      · exact ⟨_, hi⟩
      · exact ⟨_, e⟩
    have f2 : ∃ ds2, δ[k]? = some (.own ds2) := by
      rcases set_get e2 with ⟨rfl, _, _⟩ | ⟨_, e⟩
      · exact ⟨_, hi⟩
      · exact ⟨_, e⟩
    obtain ⟨d1, f1⟩ := f1
    obtain ⟨d2, f2⟩ := f2
    exact L.one j k d1 d2 b f1 f2 e3 e4
  · rw [hh]
    rcases set_get e with ⟨_, e, _⟩ | ⟨hne, e⟩
    · cases e
    · obtain ⟨c, x, y, xs, ys, q1, q2, q3, q4, q5, q6, q7⟩ := L.two j q e
      obtain ⟨k1, k2⟩ := Kid.mk' (G := hid H S) e q1 q2
      have n1 : x ≠ a := fun z => L.sep j i ds x k1 hi (z ▸ ha)
      have n2 : y ≠ a := fun z => L.sep j i ds y k2 hi (z ▸ ha)
      exact ⟨c, x, y, xs, ys, q1, q2, q3, q4, by rw [upd_ne n1]; exact q5, by rw [upd_ne n2]; exact q6, q7⟩
  · rw [hh] at kd
    obtain ⟨d2, f⟩ := hq k ds e
    exact L.sep j k d2 b (kd.unset' hp).2 f
  · rw [hh] at kd kd'
    exact L.sop j k b (kd.unset' hp).2 (kd'.unset' hp).2
theorem Loc.freeze {i : Nat} {ds : List PyData} (L : Loc K H0 σ H δ S) (hi : δ[i]? = some (.own ds)) : ∃ S', Loc K H0 σ H (δ.set i (.dat (.list ds))) S' := by
  obtain ⟨a, xs, ha, hS, hH, hx⟩ := L.own i ds hi
  have il : i < δ.length := (List.getElem?_eq_some_iff.mp hi).1
  have hp : ∀ q, Sl.dat (.list ds) ≠ .prs q := fun q z => nomatch z
  refine ⟨del S a, L.old, fun b h => ?_, fun b h => ?_, by rw [List.length_set]; exact L.len, fun j d e => ?_, fun j C e => ?_, fun j es e => ?_, fun j k ds1 es b e1 e2 e3 e4 => ?_, fun j q e => ?_, fun j k ds2 b kd e => ?_, fun j k b kd kd' => L.sop j k b (L.kidBack same_del (kd.unset' hp).2) (L.kidBack same_del (kd'.unset' hp).2)⟩
  · by_cases c : b = a
    · subst c; rw [del_same] at h; cases h
    · rw [del_ne c] at h; exact L.frs b h
  · by_cases c : b = a
    · subst c; rw [del_same] at h; cases h
    · rw [del_ne c] at h; exact L.lst b h
  · rcases set_get e with ⟨rfl, e, hl⟩ | ⟨hne, e⟩
    · cases e
      exact ⟨_, ha, .lst (SqL.of (by rw [hid_f del_same]; exact hH)) (DVs.same same_del hx)⟩
    · obtain ⟨v, e1, q⟩ := L.dat j d e
      exact ⟨v, e1, DV.same same_del q⟩
  · rcases set_get e with ⟨rfl, e, hl⟩ | ⟨hne, e⟩
    · cases e
    · obtain ⟨v, e1, q⟩ := L.exc j C e
      exact ⟨v, e1, ExAt.same same_del q⟩
  · rcases set_get e with ⟨rfl, e, hl⟩ | ⟨hne, e⟩
    · cases e
    · obtain ⟨b, ys, q1, q2, q3, q4⟩ := L.own j es e
      have : b ≠ a := by
        intro z; subst z
        exact hne (L.one i j ds es b hi e ha q1)
      exact ⟨b, ys, q1, by rw [del_ne this]; exact q2, q3, DVs.same same_del q4⟩
  · rcases set_get e1 with ⟨_, e, _⟩ | ⟨n1, f1⟩
    · cases e
    · rcases set_get e2 with ⟨_, e, _⟩ | ⟨n2, f2⟩
      · cases e
      · exact L.one j k ds1 es b f1 f2 e3 e4
  · rcases set_get e with ⟨_, e, _⟩ | ⟨hne, e⟩
    · cases e
    · obtain ⟨c, x, y, xs, ys, q1, q2, q3, q4, q5, q6, q7⟩ := L.two j q e
      obtain ⟨k1, k2⟩ := Kid.mk' (G := hid H S) e q1 q2
      have n1 : x ≠ a := fun z => L.sep j i ds x k1 hi (z ▸ ha)
      have n2 : y ≠ a := fun z => L.sep j i ds y k2 hi (z ▸ ha)
      exact ⟨c, x, y, xs, ys, q1, same_del _ _ q2, by rw [del_ne n1]; exact q3, by rw [del_ne n2]; exact q4, q5, q6, fun ds es z => ⟨DVs.same same_del (q7 ds es z).1, DVs.same same_del (q7 ds es z).2⟩⟩
  · have kd := L.kidBack same_del (kd.unset' hp).2
    rcases set_get e with ⟨_, e, _⟩ | ⟨_, e⟩
    · cases e
    · exact L.sep j k ds2 b kd e
theorem Loc.tk (L : Loc K H0 σ H δ S) : TK H (hid H S) := ⟨fun a xs h => by
    cases e : S a with
    | true => obtain ⟨ys, z⟩ := L.lst a e; rw [h] at z; cases z
    | false => rw [hid_f e]; exact h, fun a o u h => by
    cases e : S a with
    | true => obtain ⟨ys, z⟩ := L.lst a e; rw [h] at z; cases z
    | false => rw [hid_f e]; exact h⟩
end
end D3
namespace D3
open PySem PySem.Spec PyProof.Rows L2 L3
variable [Ecx]
def EndE (K : PySem.W.Frag) (E : XK) (H : Hp) (S : Addr → Bool) (Q : VK) : Res Rz → Prop
  | .ok z => ∀ v H' S', Ext H S H' S' → RV K H H' S' v z → Q v H'
  | .err C => ∀ H' S', Ext H S H' S' → E (.ref (ecx C)) none H'
def RdE (K : PySem.W.Frag) (E : XK) (t : TE) (f : List Sl → M Rz) : Prop :=
  ∀ (H0 : Hp) (σ : L2.St) (H : Hp) (δ : List Sl) (S : Addr → Bool) (Q : VK) (r : Res Rz), Loc K H0 σ H δ S → f δ = some r → EndE K E H S Q r → t σ H Q
def DE (X : Cx) (E : XK) (e : Expr) (f : List Sl → M Rz) : Prop := ∃ t, PE X e t ∧ RdE X.K E t f
def EndT (E : XK) (H : Hp) (S : Addr → Bool) (Q : Bool → Hp → Prop) : Res Bool → Prop
  | .ok z => ∀ H' S', Ext H S H' S' → Q z H'
  | .err C => ∀ H' S', Ext H S H' S' → E (.ref (ecx C)) none H'
def RdT (K : PySem.W.Frag) (E : XK) (t : TT) (f : List Sl → M Bool) : Prop :=
  ∀ (H0 : Hp) (σ : L2.St) (H : Hp) (δ : List Sl) (S : Addr → Bool) (Q : Bool → Hp → Prop) (r : Res Bool), Loc K H0 σ H δ S → f δ = some r → EndT E H S Q r → t σ H Q
def DT (X : Cx) (E : XK) (e : Expr) (f : List Sl → M Bool) : Prop := ∃ t, PT X e t ∧ RdT X.K E t f
def DW (X : Cx) (E : XK) (e : Expr) (f : List Sl → M Bool) : Prop := ∃ t, PW X e t ∧ RdT X.K E t f
theorem DW.pt {X : Cx} {E : XK} {e : Expr} {f : List Sl → M Bool} (h : DW X E e f) : DT X E e f := let ⟨t, a, b⟩ := h; ⟨t, a.pt, b⟩
inductive RVs (K : PySem.W.Frag) (H H' : Hp) (S' : Addr → Bool) : List V → List Rz → Prop
  | nil : RVs K H H' S' [] []
  | cons {v : V} {vs : List V} {r : Rz} {rs : List Rz} : RV K H H' S' v r → RVs K H H' S' vs rs → RVs K H H' S' (v :: vs) (r :: rs)
def EndA (K : PySem.W.Frag) (E : XK) (H : Hp) (S : Addr → Bool) (Q : List V → Hp → Prop) : Res (List Rz) → Prop
  | .ok z => ∀ vs H' S', Ext H S H' S' → RVs K H H' S' vs z → Q vs H'
  | .err C => ∀ H' S', Ext H S H' S' → E (.ref (ecx C)) none H'
def RdA (K : PySem.W.Frag) (E : XK) (t : TA) (f : List Sl → M (List Rz)) : Prop :=
  ∀ (H0 : Hp) (σ : L2.St) (H : Hp) (δ : List Sl) (S : Addr → Bool) (Q : List V → Hp → Prop) (r : Res (List Rz)), Loc K H0 σ H δ S → f δ = some r → EndA K E H S Q r → t σ H Q
def DA (X : Cx) (E : XK) (es : List Expr) (f : List Sl → M (List Rz)) : Prop := ∃ t, PA X es t ∧ RdA X.K E t f
theorem EndE.ext {K : PySem.W.Frag} {E : XK} {H H1 : Hp} {S S1 : Addr → Bool} {Q : VK} {r : Res Rz} (g : Ext H S H1 S1) (h : EndE K E H S Q r) : EndE K E H1 S1 Q r := by
  cases r with
  | ok z => exact fun v H' S' g' rv => h v H' S' (g.trans g') (rv.back g)
  | err C => exact fun H' S' g' => h H' S' (g.trans g')
theorem EndT.ext {E : XK} {H H1 : Hp} {S S1 : Addr → Bool} {Q : Bool → Hp → Prop} {r : Res Bool} (g : Ext H S H1 S1) (h : EndT E H S Q r) : EndT E H1 S1 Q r := by
  cases r with
  | ok z => exact fun H' S' g' => h H' S' (g.trans g')
  | err C => exact fun H' S' g' => h H' S' (g.trans g')
theorem RVs.back {K : PySem.W.Frag} {H H1 H2 : Hp} {S1 S2 S' : Addr → Bool} (g : Ext H S1 H1 S2) : ∀ {vs : List V} {rs : List Rz}, RVs K H1 H2 S' vs rs → RVs K H H2 S' vs rs
  | _, _, .nil => .nil
  | _, _, .cons h t => .cons (h.back g) (RVs.back g t)
section
variable {X : Cx} {E : XK}
def fVar (i : Nat) (δ : List Sl) : M Rz :=
  match δ[i]? with
  | some (.dat d) => okM (.dat d)
  | some (.own ds) => okM (.var ds)
  | some (.exc C) => okM (.exc C)
  | some (.prs (some (ds, es))) => okM (.use (.tuple [.list ds, .list es]))
  | _ => none
theorem rd_var {K : PySem.W.Frag} (i : Nat) : RdE K E (tVar i) (fVar i) := by
  intro H0 σ H δ S Q r L h q
  unfold fVar at h
  split at h
  · rename_i d e
    cases h
    obtain ⟨v, e1, e2⟩ := L.dat i d e
    exact ⟨v, e1, q v H S .refl e2⟩
  · rename_i ds e
    cases h
    obtain ⟨a, xs, e1, e2, e3, e4⟩ := L.own i ds e
    exact ⟨_, e1, q _ H S .refl ⟨a, xs, rfl, e2, e3, e4⟩⟩
  · rename_i C e
    cases h
    obtain ⟨a, e1, e2⟩ := L.exc i C e
    exact ⟨_, e1, q _ H S .refl ⟨a, rfl, e2⟩⟩
  · rename_i ds es e
    cases h
    obtain ⟨c, a, b, xs, ys, q1, q2, q3, q4, q5, q6, q7⟩ := L.two i _ e
    obtain ⟨dx, dy⟩ := q7 ds es rfl
    exact ⟨_, q1, q _ H S .refl (.tup (SqT.of (hid_up _ _ q2)) (.cons (.lst (SqL.of q5) (DVs.same hid_up dx)) (.cons (.lst (SqL.of q6) (DVs.same hid_up dy)) .nil)))⟩
  · exact nomatch h
theorem dvz (i : Nat) {x : Str} {pos : Pos} (hN : X.N[i]? = some x := by rfl) (hv : Vis X.env.scope x := by first | exact Or.inl rfl | exact Or.inr (Or.inl rfl) | exact Or.inr (Or.inr rfl)) (hd : (x == ("__debug__" : Str)) = false := by decide)
    (hcd : (x == ("__classdict__" : Str)) = false := by decide) : DE X E (.Name x pos) (fVar i) := ⟨_, pe_var hN hv hd hcd, rd_var i⟩
def fC (d : PyData) (_ : List Sl) : M Rz := okM (.dat d)
theorem rd_C {K : PySem.W.Frag} {v : V} {d : PyData} (h : ∀ H, DV K H v d) : RdE K E (tC v) (fC d) := by
  intro H0 σ H δ S Q r L e q
  cases e
  exact q v H S .refl (h _)
theorem diz {i j pos} : DE X E (.Constant (.int i) j pos) (fC (.int i)) := ⟨_, pe_int, rd_C fun _ => .int i⟩
theorem de_bl {b j pos} : DE X E (.Constant (.bool b) j pos) (fC (.bool b)) := ⟨_, pe_bl, rd_C fun _ => .bl b⟩
theorem de_non {j pos} : DE X E (.Constant .none j pos) (fC .none) := ⟨_, pe_non, rd_C fun _ => .non⟩
theorem de_str {x j pos} : DE X E (.Constant (.str x) j pos) (fC (.str x)) := ⟨_, pe_str, rd_C fun _ => .str x⟩
theorem de_glob {x : Str} {v : V} {u : Value} {d : PyData} {pos : Pos} (hm : X.mg x = some u) (r : RelV v u) (hd : ∀ H, DV X.K H v d) (hg : Gl X x := by rfl) (hdb : (x == ("__debug__" : Str)) = false := by decide) : DE X E (.Name x pos) (fC d) :=
  ⟨_, pe_glob hg hm r hdb, rd_C hd⟩
def OpD (K : PySem.W.Frag) (E : XK) (r : R2) (g : Rz → Rz → M Rz) : Prop :=
  ∀ (H0 : Hp) (σ : L2.St) (H : Hp) (δ : List Sl) (S : Addr → Bool) (Ha Hb : Hp) (v w : V) (x y : Rz) (z : Res Rz) (Q : VK), Loc K H0 σ H δ S → RV K Ha H S v x → RV K Hb H S w y → g x y = some z → EndE K E H S Q z → r v w H Q
def f2 (g : Rz → Rz → M Rz) (fa fb : List Sl → M Rz) (δ : List Sl) : M Rz := bnd (fa δ) fun x => bnd (fb δ) fun y => g x y
theorem rd2 {K : PySem.W.Frag} {r : R2} {g : Rz → Rz → M Rz} {ta tb : TE} {fa fb : List Sl → M Rz} (hr : OpD K E r g) (ha : RdE K E ta fa) (hb : RdE K E tb fb) : RdE K E (tOp r ta tb) (f2 g fa fb) := by
  intro H0 σ H δ S Q z L h q
  rcases bnd_inv h with ⟨x, h1, h⟩ | ⟨C, h1, rfl⟩
  · refine ha H0 σ H δ S _ _ L h1 fun v H1 S1 g1 rv => ?_
    rcases bnd_inv h with ⟨y, h2, h⟩ | ⟨C, h2, rfl⟩
    · refine hb H0 σ H1 δ S1 _ _ (L.ext g1) h2 fun w H2 S2 g2 rw' => ?_
      exact hr H0 σ H2 δ S2 H H1 v w x y z Q ((L.ext g1).ext g2) (rv.ext g2) rw' h (q.ext (g1.trans g2))
    · exact hb H0 σ H1 δ S1 _ _ (L.ext g1) h2 (EndE.ext g1 q)
  · exact ha H0 σ H δ S _ _ L h1 q
theorem de_bin {a b : Expr} {pos : Pos} {op : Operator} {r : R2} {g : Rz → Rz → M Rz} {fa fb : List Sl → M Rz} (ho : OpR X (binaryOp op) r) (hr : OpD X.K E r g) (ha : DE X E a fa) (hb : DE X E b fb) : DE X E (.BinOp a op b pos) (f2 g fa fb) :=
  let ⟨ta, a1, a2⟩ := ha; let ⟨tb, b1, b2⟩ := hb; ⟨_, pe_op ho a1 b1, rd2 hr a2 b2⟩
theorem de_cmp {a b : Expr} {pos : Pos} {op : CmpOp} {r : R2} {g : Rz → Rz → M Rz} {fa fb : List Sl → M Rz} (ho : OpR X (compareOp op) r) (hr : OpD X.K E r g) (ha : DE X E a fa) (hb : DE X E b fb) (hm : behindInMarks op b = false := by exact nomark _) : DE X E (.Compare a [op] [b] pos) (f2 g fa fb) :=
  let ⟨ta, a1, a2⟩ := ha; let ⟨tb, b1, b2⟩ := hb; ⟨_, pe_cmpR ho a1 b1 hm, rd2 hr a2 b2⟩
def boolOf (x : Rz) : M Bool :=
  match x.d? with
  | some (.bool b) => okM b
  | _ => none
def fB (f : List Sl → M Rz) (δ : List Sl) : M Bool := bnd (f δ) boolOf
theorem boolOf_inv {x : Rz} {r : Res Bool} (h : boolOf x = some r) : ∃ b, x.d? = some (.bool b) ∧ r = .ok b := by
  unfold boolOf at h
  split at h
  · rename_i b e; cases h; exact ⟨b, e, rfl⟩
  · cases h
theorem rd_test {K : PySem.W.Frag} {t : TE} {f : List Sl → M Rz} (h : RdE K E t f) : RdT K E (fun σ H Q => t σ H fun x H' => ∃ k, x = .bl k ∧ Q k H') (fB f) := by
  intro H0 σ H δ S Q z L e q
  rcases bnd_inv e with ⟨x, h1, e⟩ | ⟨C, h1, rfl⟩
  · obtain ⟨b, eb, rfl⟩ := boolOf_inv e
    refine h H0 σ H δ S _ _ L h1 fun v H1 S1 g1 rv => ?_
    have d := rv.full eb
    cases d
    exact ⟨b, rfl, q H1 S1 g1⟩
  · exact h H0 σ H δ S _ _ L h1 q
theorem dt_cmp {a b : Expr} {pos : Pos} {op : CmpOp} {r : R2} {g : Rz → Rz → M Rz} {fa fb : List Sl → M Rz} (ho : OpR X (compareOp op) r) (hr : OpD X.K E r g) (ha : DE X E a fa) (hb : DE X E b fb) (hm : behindInMarks op b = false := by exact nomark _) : DT X E (.Compare a [op] [b] pos) (fB (f2 g fa fb)) :=
  let ⟨ta, a1, a2⟩ := ha; let ⟨tb, b1, b2⟩ := hb; ⟨_, pt_cmpR ho a1 b1 hm, rd_test (rd2 hr a2 b2)⟩
theorem dt_val {e : Expr} {f : List Sl → M Rz} (h : DE X E e f) (he : ∀ whole, isTrue e X.env whole = (do let v ← whole; standAt e.pos; holding [v] (truthy v)) := by intro _; rfl) : DT X E e (fB f) :=
  let ⟨t, a, b⟩ := h; ⟨_, pt_val a he, rd_test b⟩
def fNot (f : List Sl → M Bool) (δ : List Sl) : M Bool := bnd (f δ) fun b => okM (!b)
def fAnd (f g : List Sl → M Bool) (δ : List Sl) : M Bool := bnd (f δ) fun b => if b = true then g δ else okM false
def fOr (f g : List Sl → M Bool) (δ : List Sl) : M Bool := bnd (f δ) fun b => if b = true then okM true else g δ
theorem rd_not {K : PySem.W.Frag} {t : TT} {f : List Sl → M Bool} (h : RdT K E t f) : RdT K E (tNot t) (fNot f) := by
  intro H0 σ H δ S Q z L e q
  rcases bnd_inv e with ⟨x, h1, e⟩ | ⟨C, h1, rfl⟩
  · cases e
    exact h H0 σ H δ S _ _ L h1 fun H1 S1 g1 => q H1 S1 g1
  · exact h H0 σ H δ S _ _ L h1 q
theorem rd_and {K : PySem.W.Frag} {t u : TT} {f g : List Sl → M Bool} (h : RdT K E t f) (h' : RdT K E u g) : RdT K E (tAnd t u) (fAnd f g) := by
  intro H0 σ H δ S Q z L e q
  rcases bnd_inv e with ⟨x, h1, e⟩ | ⟨C, h1, rfl⟩
  · refine h H0 σ H δ S _ _ L h1 fun H1 S1 g1 => ?_
    cases x with
    | true => exact iteT (h' H0 σ H1 δ S1 _ _ (L.ext g1) e (EndT.ext g1 q))
    | false => cases e; exact iteF (q H1 S1 g1)
  · exact h H0 σ H δ S _ _ L h1 q
theorem rd_or {K : PySem.W.Frag} {t u : TT} {f g : List Sl → M Bool} (h : RdT K E t f) (h' : RdT K E u g) : RdT K E (tOr t u) (fOr f g) := by
  intro H0 σ H δ S Q z L e q
  rcases bnd_inv e with ⟨x, h1, e⟩ | ⟨C, h1, rfl⟩
  · refine h H0 σ H δ S _ _ L h1 fun H1 S1 g1 => ?_
    cases x with
    | false => exact iteF (h' H0 σ H1 δ S1 _ _ (L.ext g1) e (EndT.ext g1 q))
    | true => cases e; exact iteT (q H1 S1 g1)
  · exact h H0 σ H δ S _ _ L h1 q
variable {a b : Expr} {rest : List Expr} {pos : Pos}
theorem dt_not {f : List Sl → M Bool} (h : DT X E a f) : DT X E (.UnaryOp .Not a pos) (fNot f) := let ⟨t, a, b⟩ := h; ⟨_, pt_not a, rd_not b⟩
theorem dw_and1 {f : List Sl → M Bool} (h : DT X E a f) : DW X E (.BoolOp .And [a] pos) f := let ⟨t, a, b⟩ := h; ⟨_, pw_and1 a, b⟩
theorem dw_or1 {f : List Sl → M Bool} (h : DT X E a f) : DW X E (.BoolOp .Or [a] pos) f := let ⟨t, a, b⟩ := h; ⟨_, pw_or1 a, b⟩
theorem dw_and {f g : List Sl → M Bool} (h : DT X E a f) (h' : DW X E (.BoolOp .And (b :: rest) pos) g) : DW X E (.BoolOp .And (a :: b :: rest) pos) (fAnd f g) := let ⟨t, a, b⟩ := h; let ⟨u, c, d⟩ := h'; ⟨_, pw_and a c, rd_and b d⟩
theorem dw_or {f g : List Sl → M Bool} (h : DT X E a f) (h' : DW X E (.BoolOp .Or (b :: rest) pos) g) : DW X E (.BoolOp .Or (a :: b :: rest) pos) (fOr f g) := let ⟨t, a, b⟩ := h; let ⟨u, c, d⟩ := h'; ⟨_, pw_or a c, rd_or b d⟩
def fV (f : List Sl → M Bool) (δ : List Sl) : M Rz := bnd (f δ) fun b => okM (.dat (.bool b))
theorem rd_one {K : PySem.W.Frag} {t : TE} {f : List Sl → M Rz} (h : RdE K E t f) : RdE K E t (fV (fB f)) := by
  intro H0 σ H δ S Q z L e q
  rcases bnd_inv e with ⟨b, h1, e⟩ | ⟨C, h1, rfl⟩
  · rcases bnd_inv h1 with ⟨x, h2, h1⟩ | ⟨C, h2, h3⟩
    · obtain ⟨b', eb, eq⟩ := boolOf_inv h1
      cases eq
      cases e
      refine h H0 σ H δ S _ _ L h2 fun v H1 S1 g1 rv => ?_
      have d := rv.full eb
      cases d
      exact q _ H1 S1 g1 (.bl b)
    · cases h3
  · rcases bnd_inv h1 with ⟨x, h2, h1⟩ | ⟨C', h2, h3⟩
    · obtain ⟨b', eb, eq⟩ := boolOf_inv h1
      cases eq
    · cases h3
      exact h H0 σ H δ S _ _ L h2 q
theorem de_one {op} {f : List Sl → M Rz} (h : DE X E a f) : DE X E (.BoolOp op [a] pos) (fV (fB f)) := let ⟨t, a, b⟩ := h; ⟨_, pe_one a, rd_one b⟩
theorem fV_ok {f : List Sl → M Bool} {δ : List Sl} {z : Res Rz} (h : fV f δ = some z) : (∃ b, f δ = some (.ok b) ∧ z = .ok (.dat (.bool b))) ∨ ∃ C, f δ = some (.err C) ∧ z = .err C := by
  rcases bnd_inv h with ⟨b, h1, e⟩ | ⟨C, h1, rfl⟩
  · cases e; exact .inl ⟨b, h1, rfl⟩
  · exact .inr ⟨C, h1, rfl⟩
theorem de_and {f : List Sl → M Rz} {g : List Sl → M Bool} (h : DE X E a f) (h' : DE X E (.BoolOp .And (b :: rest) pos) (fV g)) : DE X E (.BoolOp .And (a :: b :: rest) pos) (fV (fAnd (fB f) g)) := by
  obtain ⟨t, a1, a2⟩ := h
  obtain ⟨u, c1, c2⟩ := h'
  refine ⟨_, pe_and a1 c1, ?_⟩
  intro H0 σ H δ S Q z L ez q
  rcases fV_ok ez with ⟨k, e, rfl⟩ | ⟨C, e, rfl⟩
  · rcases bnd_inv e with ⟨b, h1, e⟩ | ⟨C, h1, h2⟩
    · rcases bnd_inv h1 with ⟨x, h2, h1⟩ | ⟨C, h2, h3⟩
      · obtain ⟨b', eb, eq⟩ := boolOf_inv h1
        cases eq
        refine a2 H0 σ H δ S _ _ L h2 fun v H1 S1 g1 rv => ?_
        have d := rv.full eb
        cases d
        cases b with
        | true => exact ⟨true, rfl, iteT (c2 H0 σ H1 δ S1 _ _ (L.ext g1) (by unfold fV; rw [(show g δ = some (.ok k) from e)]; rfl) (EndE.ext g1 q))⟩
        | false => cases e; exact ⟨false, rfl, iteF (q _ H1 S1 g1 (.bl false))⟩
      · cases h3
    · cases h2
  · rcases bnd_inv e with ⟨b, h1, e⟩ | ⟨C, h1, h2⟩
    · rcases bnd_inv h1 with ⟨x, h2, h1⟩ | ⟨C, h2, h3⟩
      · obtain ⟨b', eb, eq⟩ := boolOf_inv h1
        cases eq
        refine a2 H0 σ H δ S _ _ L h2 fun v H1 S1 g1 rv => ?_
        have d := rv.full eb
        cases d
        cases b with
        | true => exact ⟨true, rfl, iteT (c2 H0 σ H1 δ S1 _ _ (L.ext g1) (by unfold fV; rw [(show g δ = some (.err C) from e)]; rfl) (EndE.ext g1 q))⟩
        | false => cases e
      · cases h3
    · cases h2
      rcases bnd_inv h1 with ⟨x, h2, h1⟩ | ⟨C', h2, h3⟩
      · obtain ⟨b', eb, eq⟩ := boolOf_inv h1
        cases eq
      · cases h3
        exact a2 H0 σ H δ S _ _ L h2 q
theorem de_not {f : List Sl → M Rz} (h : DE X E a f) : DE X E (.UnaryOp .Not a pos) (fV (fNot (fB f))) := by
  obtain ⟨t, a1, a2⟩ := h
  refine ⟨_, pe_not a1, ?_⟩
  intro H0 σ H δ S Q z L ez q
  rcases fV_ok ez with ⟨k, e, rfl⟩ | ⟨C, e, rfl⟩
  · rcases bnd_inv e with ⟨b, h1, e⟩ | ⟨C, h1, h2⟩
    · rcases bnd_inv h1 with ⟨x, h2, h1⟩ | ⟨C, h2, h3⟩
      · obtain ⟨b', eb, eq⟩ := boolOf_inv h1
        cases eq
        cases e
        refine a2 H0 σ H δ S _ _ L h2 fun v H1 S1 g1 rv => ?_
        have d := rv.full eb
        cases d
        exact ⟨b, rfl, q _ H1 S1 g1 (.bl _)⟩
      · cases h3
    · cases h2
  · rcases bnd_inv e with ⟨b, h1, e⟩ | ⟨C, h1, h2⟩
    · cases e
    · cases h2
      rcases bnd_inv h1 with ⟨x, h2, h1⟩ | ⟨C', h2, h3⟩
      · obtain ⟨b', eb, eq⟩ := boolOf_inv h1
        cases eq
      · cases h3
        exact a2 H0 σ H δ S _ _ L h2 q
end
end D3
namespace D3
open PySem PySem.Spec PyProof.Rows L2 L3
variable [Ecx]
theorem DVs.len {K : PySem.W.Frag} {H : Hp} : ∀ {xs : List V} {ds : List PyData}, DVs K H xs ds → xs.length = ds.length
  | _, _, .nil => rfl
  | _, _, .cons _ t => by rw [List.length_cons, List.length_cons, DVs.len t]
theorem DVs.get {K : PySem.W.Frag} {H : Hp} : ∀ {xs : List V} {ds : List PyData} {i : Nat} {d : PyData}, DVs K H xs ds → ds[i]? = some d → ∃ v, xs[i]? = some v ∧ DV K H v d
  | _, _, _, _, .nil, h => by simp at h
  | _, _, 0, _, .cons h _, e => by simp at e; subst e; exact ⟨_, rfl, h⟩
  | _, _, i + 1, _, .cons _ t, e => by
    have e' : _ := e
    simp at e'
    obtain ⟨v, h1, h2⟩ := DVs.get t e'
    exact ⟨v, by simpa using h1, h2⟩
theorem DVs.atI {K : PySem.W.Frag} {H : Hp} {xs : List V} {ds : List PyData} {i : Int} {d : PyData} (h : DVs K H xs ds) (e : L2.atI ds i = some d) : ∃ v, L2.atI xs i = some v ∧ DV K H v d := by
  unfold L2.atI at e ⊢
  rw [DVs.len h]
  cases q : ixN ds.length i with
  | none => rw [q] at e; cases e
  | some j => rw [q] at e; exact DVs.get h e
theorem DVs.append {K : PySem.W.Frag} {H : Hp} {ys : List V} {es : List PyData} (b : DVs K H ys es) : ∀ {xs : List V} {ds : List PyData}, DVs K H xs ds → DVs K H (xs ++ ys) (ds ++ es)
  | _, _, .nil => b
  | _, _, .cons h t => .cons h (DVs.append b t)
theorem DVs.drop {K : PySem.W.Frag} {H : Hp} : ∀ (n : Nat) {xs : List V} {ds : List PyData}, DVs K H xs ds → DVs K H (xs.drop n) (ds.drop n)
  | 0, _, _, h => h
  | n + 1, _, _, .nil => .nil
  | n + 1, _, _, .cons _ t => DVs.drop n t
theorem DVs.take {K : PySem.W.Frag} {H : Hp} : ∀ (n : Nat) {xs : List V} {ds : List PyData}, DVs K H xs ds → DVs K H (xs.take n) (ds.take n)
  | 0, _, _, h => by simp; exact .nil
  | n + 1, _, _, .nil => .nil
  | n + 1, _, _, .cons h t => .cons h (DVs.take n t)
theorem DVs.set {K : PySem.W.Frag} {H : Hp} {v : V} {d : PyData} (hv : DV K H v d) : ∀ (j : Nat) {xs : List V} {ds : List PyData}, DVs K H xs ds → DVs K H (xs.set j v) (ds.set j d)
  | _, _, _, .nil => .nil
  | 0, _, _, .cons _ t => .cons hv t
  | j + 1, _, _, .cons h t => .cons h (DVs.set hv j t)
theorem DVs.rep {K : PySem.W.Frag} {H : Hp} {xs : List V} {ds : List PyData} (h : DVs K H xs ds) : ∀ n : Nat, DVs K H (List.replicate n xs).flatten (List.replicate n ds).flatten
  | 0 => .nil
  | n + 1 => by rw [List.replicate_succ, List.replicate_succ, List.flatten_cons, List.flatten_cons]; exact DVs.append (DVs.rep h n) h
theorem DVs.dropLast {K : PySem.W.Frag} {H : Hp} {xs : List V} {ds : List PyData} (h : DVs K H xs ds) : DVs K H xs.dropLast ds.dropLast := by
  rw [List.dropLast_eq_take, List.dropLast_eq_take, DVs.len h]; exact DVs.take _ h
def seqOf (x : Rz) : Option (Bool × List PyData) :=
  match x.d? with
  | some (.list ds) => some (true, ds)
  | some (.tuple ds) => some (false, ds)
  | _ => none
def kept (x : Rz) (ds : List PyData) : Bool :=
  match x with
  | .use _ => noLs ds
  | _ => true
theorem seq_list {K : PySem.W.Frag} {H0 Ha H : Hp} {σ : L2.St} {δ : List Sl} {S : Addr → Bool} {v : V} {x : Rz} {ds : List PyData} (L : Loc K H0 σ H δ S) (r : RV K Ha H S v x) (h : x.d? = some (.list ds)) :
    ∃ a xs, v = .ref a ∧ SqL K H a xs ∧ DVs K H xs ds ∧ (kept x ds = true → DVs K (hid H S) xs ds) := by
  cases x with
  | dat d =>
    cases h
    have r' : DV K (hid H S) v (.list ds) := r
    cases r' with
    | lst hs hx => exact ⟨_, _, rfl, hid_up.seq hs, DVs.same hid_up hx, fun _ => hx⟩
  | use d =>
    cases h
    have r' : DV K H v (.list ds) := r
    cases r' with
    | lst hs hx => exact ⟨_, _, rfl, hs, hx, fun k => DVs.ts L.tk hx k⟩
  | new es =>
    cases h
    obtain ⟨a, xs, rfl, _, _, ha, hx⟩ := r
    exact ⟨a, xs, rfl, SqL.of ha, DVs.same hid_up hx, fun _ => hx⟩
  | var es =>
    cases h
    obtain ⟨a, xs, rfl, _, ha, hx⟩ := r
    exact ⟨a, xs, rfl, SqL.of ha, DVs.same hid_up hx, fun _ => hx⟩
  | exc C => cases h
theorem seq_tup {K : PySem.W.Frag} {H0 Ha H : Hp} {σ : L2.St} {δ : List Sl} {S : Addr → Bool} {v : V} {x : Rz} {ds : List PyData} (L : Loc K H0 σ H δ S) (r : RV K Ha H S v x) (h : x.d? = some (.tuple ds)) :
    ∃ a xs, v = .ref a ∧ SqT K H a xs ∧ DVs K H xs ds ∧ (kept x ds = true → DVs K (hid H S) xs ds ∧ SqT K (hid H S) a xs) := by
  cases x with
  | dat d =>
    cases h
    have r' : DV K (hid H S) v (.tuple ds) := r
    cases r' with
    | tup hs hx => exact ⟨_, _, rfl, SameT hid_up hs, DVs.same hid_up hx, fun _ => ⟨hx, hs⟩⟩
  | use d =>
    cases h
    have r' : DV K H v (.tuple ds) := r
    cases r' with
    | tup hs hx => exact ⟨_, _, rfl, hs, hx, fun k => ⟨DVs.ts L.tk hx k, L.tk.tup hs⟩⟩
  | new es => cases h
  | var es => cases h
  | exc C => cases h
def gI (g : Int → Int → Option PyData) (x y : Rz) : M Rz :=
  match x.d?, y.d? with
  | some (.int i), some (.int j) => (match g i j with | some d => okM (.dat d) | none => none)
  | _, _ => none
theorem gI_inv {g : Int → Int → Option PyData} {x y : Rz} {z : Res Rz} (h : gI g x y = some z) : ∃ i j d, x.d? = some (.int i) ∧ y.d? = some (.int j) ∧ g i j = some d ∧ z = .ok (.dat d) := by
  unfold gI at h
  split at h
  · rename_i i j e1 e2
    split at h
    · rename_i d e3; cases h; exact ⟨i, j, d, e1, e2, e3, rfl⟩
    · cases h
  · cases h
theorem od_I {K : PySem.W.Frag} {E : XK} {C : Int → Int → Prop} {g : Int → Int → V} {g' : Int → Int → Option PyData} (hg : ∀ i j d, g' i j = some d → C i j ∧ ∀ H, DV K H (g i j) d) : OpD K E (rI C g) (gI g') := by
  intro H0 σ H δ S Ha Hb v w x y z Q L rx ry h q
  obtain ⟨i, j, d, e1, e2, e3, rfl⟩ := gI_inv h
  have d1 := rx.full e1
  have d2 := ry.full e2
  cases d1; cases d2
  obtain ⟨hc, hv⟩ := hg i j d e3
  exact ⟨i, j, rfl, rfl, hc, q _ H S .refl (hv _)⟩
theorem od_I0 {K : PySem.W.Frag} {E : XK} {g : Int → Int → V} {g' : Int → Int → Option PyData} (hg : ∀ i j d, g' i j = some d → ∀ H, DV K H (g i j) d) : OpD K E (rI0 g) (gI g') := by
  intro H0 σ H δ S Ha Hb v w x y z Q L rx ry h q
  obtain ⟨i, j, d, e1, e2, e3, rfl⟩ := gI_inv h
  have d1 := rx.full e1
  have d2 := ry.full e2
  cases d1; cases d2
  exact ⟨i, j, rfl, rfl, q _ H S .refl (hg i j d e3 _)⟩
open Classical in
noncomputable def gMul (i j : Int) : Option PyData := if IntMulOk i j then some (.int (i * j)) else none
open Classical in
noncomputable def gFdiv (i j : Int) : Option PyData := if j ≠ 0 ∧ j.natAbs < 2 ^ 9000 then some (.int (i.fdiv j)) else none
def gAdd (i j : Int) : Option PyData := some (.int (i + j))
def gSub (i j : Int) : Option PyData := some (.int (i - j))
def gMod (i j : Int) : Option PyData := if j = 0 then none else some (.int (i.fmod j))
open Classical in
noncomputable def gPow (i j : Int) : Option PyData := if CPow i j then some (.int (i ^ j.toNat)) else none
def gLt (i j : Int) : Option PyData := some (.bool (decide (i < j)))
def gLe (i j : Int) : Option PyData := some (.bool (decide (i ≤ j)))
def gGt (i j : Int) : Option PyData := some (.bool (decide (j < i)))
section
variable {K : PySem.W.Frag} {E : XK}
theorem od_add : OpD K E (rI0 fun i j => .int (i + j)) (gI gAdd) := od_I0 fun i j d h H => by cases h; exact .int _
theorem od_sub : OpD K E (rI0 fun i j => .int (i - j)) (gI gSub) := od_I0 fun i j d h H => by cases h; exact .int _
theorem od_lt : OpD K E (rI0 fun i j => .bl (decide (i < j))) (gI gLt) := od_I0 fun i j d h H => by cases h; exact .bl _
theorem od_le : OpD K E (rI0 fun i j => .bl (decide (i ≤ j))) (gI gLe) := od_I0 fun i j d h H => by cases h; exact .bl _
theorem od_gt : OpD K E (rI0 fun i j => .bl (decide (j < i))) (gI gGt) := od_I0 fun i j d h H => by cases h; exact .bl _
theorem od_mul : OpD K E (rI IntMulOk fun i j => .int (i * j)) (gI gMul) := od_I fun i j d h => by
  unfold gMul at h
  split at h
  · cases h; exact ⟨by assumption, fun _ => .int _⟩
  · cases h
theorem od_fdiv : OpD K E (rI (fun _ j => j ≠ 0 ∧ j.natAbs < 2 ^ 9000) fun i j => .int (i.fdiv j)) (gI gFdiv) := od_I fun i j d h => by
  unfold gFdiv at h
  split at h
  · cases h; exact ⟨by assumption, fun _ => .int _⟩
  · cases h
theorem od_mod : OpD K E (rI (fun _ j => j ≠ 0) fun i j => .int (i.fmod j)) (gI gMod) := od_I fun i j d h => by
  unfold gMod at h
  split at h
  · cases h
  · cases h; exact ⟨by assumption, fun _ => .int _⟩
def gEq (neg : Bool) (x y : Rz) : M Rz :=
  match x.d?, y.d? with
  | some d, some e => if okD d = true ∧ okD e = true then okM (.dat (.bool (if neg then !PyData.eqv d e else PyData.eqv d e))) else none
  | _, _ => none
theorem gEq_inv {neg : Bool} {x y : Rz} {z : Res Rz} (h : gEq neg x y = some z) : ∃ d e, x.d? = some d ∧ y.d? = some e ∧ okD d = true ∧ okD e = true ∧ z = .ok (.dat (.bool (if neg then !PyData.eqv d e else PyData.eqv d e))) := by
  unfold gEq at h
  split at h
  · rename_i d e e1 e2
    split at h
    · rename_i c; cases h; exact ⟨d, e, e1, e2, c.1, c.2, rfl⟩
    · cases h
  · cases h
theorem od_eq : OpD K E (rEqD K) (gEq false) := by
  intro H0 σ H δ S Ha Hb v w x y z Q L rx ry h q
  obtain ⟨d, e, e1, e2, o1, o2, rfl⟩ := gEq_inv h
  exact ⟨d, e, rx.full e1, ry.full e2, o1, o2, q _ H S .refl (.bl _)⟩
theorem od_ne : OpD K E (rNeD K) (gEq true) := by
  intro H0 σ H δ S Ha Hb v w x y z Q L rx ry h q
  obtain ⟨d, e, e1, e2, o1, o2, rfl⟩ := gEq_inv h
  exact ⟨d, e, rx.full e1, ry.full e2, o1, o2, q _ H S .refl (.bl _)⟩
def itemD (x : Rz) (d : PyData) : Rz :=
  match x with
  | .use _ => if noL d = true then .dat d else .use d
  | _ => .dat d
def gIx (x y : Rz) : M Rz :=
  match seqOf x, y.d? with
  | some (_, ds), some (.int i) => (match L2.atI ds i with | some d => okM (itemD x d) | none => none)
  | _, _ => none
theorem item_ok {H0 H : Hp} {σ : L2.St} {δ : List Sl} {S : Addr → Bool} {x : Rz} {d : PyData} {i : Int} {xs : List V} {ds : List PyData} (L : Loc K H0 σ H δ S) (hx : DVs K H xs ds) (hk : kept x ds = true → DVs K (hid H S) xs ds) (e : L2.atI ds i = some d) :
    ∃ w, L2.atI xs i = some w ∧ ∀ Hc, RV K Hc H S w (itemD x d) := by
  obtain ⟨w, e1, dw⟩ := DVs.atI hx e
  refine ⟨w, e1, fun Hc => ?_⟩
  cases x with
  | use z =>
    unfold itemD
    dsimp only
    split
    · rename_i c; exact DV.ts L.tk dw c
    · exact dw
  | dat z =>
    obtain ⟨w', e2, dw'⟩ := DVs.atI (hk rfl) e
    rw [e1] at e2; cases e2; exact dw'
  | new z =>
    obtain ⟨w', e2, dw'⟩ := DVs.atI (hk rfl) e
    rw [e1] at e2; cases e2; exact dw'
  | var z =>
    obtain ⟨w', e2, dw'⟩ := DVs.atI (hk rfl) e
    rw [e1] at e2; cases e2; exact dw'
  | exc z =>
    obtain ⟨w', e2, dw'⟩ := DVs.atI (hk rfl) e
    rw [e1] at e2; cases e2; exact dw'
theorem od_ix : OpD K E (rIx K) gIx := by
  intro H0 σ H δ S Ha Hb v w x y z Q L rx ry h q
  unfold gIx at h
  split at h
  · rename_i b ds i e1 e2
    split at h
    · rename_i d e3
      cases h
      have d2 := ry.full e2
      cases d2
      unfold seqOf at e1
      split at e1
      · rename_i es e4
        cases e1
        obtain ⟨a, xs, rfl, hs, hx, hk⟩ := seq_list L rx e4
        obtain ⟨u, e5, ru⟩ := item_ok L hx hk e3
        exact .inl ⟨a, xs, i, u, rfl, rfl, hs, e5, q _ H S .refl (ru _)⟩
      · rename_i es e4
        cases e1
        obtain ⟨a, xs, rfl, hs, hx, hk⟩ := seq_tup L rx e4
        obtain ⟨u, e5, ru⟩ := item_ok L hx (fun k => (hk k).1) e3
        exact .inr (.inl ⟨a, xs, i, u, rfl, rfl, hs, e5, q _ H S .refl (ru _)⟩)
      · cases e1
    · cases h
  · cases h
def ownOf (x : Rz) : Option (List PyData) :=
  match x with
  | .new ds => some ds
  | .var ds => some ds
  | _ => none
theorem own_ok {Ha H : Hp} {S : Addr → Bool} {v : V} {x : Rz} {ds : List PyData} (r : RV K Ha H S v x) (h : ownOf x = some ds) : ∃ a xs, v = .ref a ∧ S a = true ∧ H a = some (.lst xs) ∧ DVs K (hid H S) xs ds := by
  cases x with
  | new es => cases h; obtain ⟨a, xs, e, z, _, q⟩ := r; exact ⟨a, xs, e, z, q⟩
  | var es => cases h; exact r
  | dat d => cases h
  | use d => cases h
  | exc d => cases h
def gCat (x y : Rz) : M Rz :=
  match ownOf x, ownOf y with
  | some ds, some es => if ds.length + es.length ≤ sizeLine then okM (.new (ds ++ es)) else none
  | _, _ => none
theorem od_cat : OpD K E rCat gCat := by
  intro H0 σ H δ S Ha Hb v w x y z Q L rx ry h q
  unfold gCat at h
  split at h
  · rename_i ds es e1 e2
    split at h
    · rename_i hz
      cases h
      obtain ⟨a, xs, rfl, _, ha, hx⟩ := own_ok rx e1
      obtain ⟨b, ys, rfl, _, hb, hy⟩ := own_ok ry e2
      refine ⟨a, b, xs, ys, rfl, rfl, ha, hb, by rw [DVs.len hx, DVs.len hy]; exact hz, fun p hp => ?_⟩
      exact q _ _ (ins S p) (Ext.ins hp) ⟨p, _, rfl, ins_same, hp, upd_same, by rw [hid_ins hp]; exact DVs.append hy hx⟩
    · cases h
  · cases h
def gRep (x y : Rz) : M Rz :=
  match ownOf x, y.d? with
  | some ds, some (.int k) => if -(2 ^ 63) ≤ k ∧ k < 2 ^ 63 ∧ ds.length * k.toNat ≤ sizeLine then okM (.new (List.replicate k.toNat ds).flatten) else none
  | _, _ => none
theorem od_rep : OpD K E rRep gRep := by
  intro H0 σ H δ S Ha Hb v w x y z Q L rx ry h q
  unfold gRep at h
  split at h
  · rename_i ds k e1 e2
    split at h
    · rename_i hz
      cases h
      obtain ⟨a, xs, rfl, _, ha, hx⟩ := own_ok rx e1
      have d2 := ry.full e2
      cases d2
      refine ⟨a, k, xs, rfl, rfl, ha, hz.1, hz.2.1, by rw [DVs.len hx]; exact hz.2.2, fun p hp => ?_⟩
      exact q _ _ (ins S p) (Ext.ins hp) ⟨p, _, rfl, ins_same, hp, upd_same, by rw [hid_ins hp]; exact DVs.rep hx _⟩
    · cases h
  · cases h
theorem same_upd_hid {H : Hp} {S : Addr → Bool} {p : Addr} {o : HO} (L : ∀ b, S b = true → ∃ xs, H b = some (.lst xs)) (hp : H p = none) : hid (upd H p o) S p = some o := by
  cases e : S p with
  | true => obtain ⟨xs, z⟩ := L p e; rw [hp] at z; cases z
  | false => rw [hid_f e]; exact upd_same
end
end D3
namespace D3
open PySem PySem.Spec PyProof.Rows L2 L3
variable [Ecx]
section
variable {X : Cx} {E : XK} {K : PySem.W.Frag}
def fNil (_ : List Sl) : M (List Rz) := okM []
def fCons (f : List Sl → M Rz) (g : List Sl → M (List Rz)) (δ : List Sl) : M (List Rz) := bnd (f δ) fun x => bnd (g δ) fun xs => okM (x :: xs)
theorem dnz : DA X E [] fNil := ⟨_, pa_nil, fun H0 σ H δ S Q r L h q => by cases h; exact q [] H S .refl .nil⟩
theorem dcz {e : Expr} {es : List Expr} {f : List Sl → M Rz} {g : List Sl → M (List Rz)} (ha : DE X E e f) (hr : DA X E es g) (hs : starEach (e :: es) X.env = (false, eval e X.env) :: starEach es X.env := by rfl) : DA X E (e :: es) (fCons f g) := by
  obtain ⟨t, a1, a2⟩ := ha
  obtain ⟨u, b1, b2⟩ := hr
  refine ⟨_, pa_cons a1 b1 hs, ?_⟩
  intro H0 σ H δ S Q z L h q
  rcases bnd_inv h with ⟨x, h1, h⟩ | ⟨C, h1, rfl⟩
  · refine a2 H0 σ H δ S _ _ L h1 fun v H1 S1 g1 rv => ?_
    rcases bnd_inv h with ⟨xs, h2, h⟩ | ⟨C, h2, rfl⟩
    · cases h
      refine b2 H0 σ H1 δ S1 _ _ (L.ext g1) h2 fun vs H2 S2 g2 rw' => ?_
      exact q _ H2 S2 (g1.trans g2) (.cons (rv.ext g2) (rw'.back g1))
    · exact b2 H0 σ H1 δ S1 _ _ (L.ext g1) h2 fun H2 S2 g2 => q H2 S2 (g1.trans g2)
  · exact a2 H0 σ H δ S _ _ L h1 q
def CallD (K : PySem.W.Frag) (E : XK) (r : List V → Hp → VK → Prop) (g : List Rz → M Rz) : Prop :=
  ∀ (H0 : Hp) (σ : L2.St) (H : Hp) (δ : List Sl) (S : Addr → Bool) (Hs : Hp) (vs : List V) (zs : List Rz) (z : Res Rz) (Q : VK), Loc K H0 σ H δ S → RVs K Hs H S vs zs → g zs = some z → EndE K E H S Q z → r vs H Q
def fCall (g : List Rz → M Rz) (fa : List Sl → M (List Rz)) (δ : List Sl) : M Rz := bnd (fa δ) g
theorem rd_call {t : TA} {r : List V → Hp → VK → Prop} {g : List Rz → M Rz} {fa : List Sl → M (List Rz)} (hd : CallD K E r g) (ha : RdA K E t fa) : RdE K E (fun σ H Q => t σ H fun vs H1 => r vs H1 Q) (fCall g fa) := by
  intro H0 σ H δ S Q z L h q
  rcases bnd_inv h with ⟨x, h1, h⟩ | ⟨C, h1, rfl⟩
  · refine ha H0 σ H δ S _ _ L h1 fun vs H1 S1 g1 rv => ?_
    exact hd H0 σ H1 δ S1 H vs x z Q (L.ext g1) rv h (q.ext g1)
  · exact ha H0 σ H δ S _ _ L h1 q
theorem de_callB {x : Str} {p pos : Pos} {e : Expr} {es : List Expr} {id : String} {r : List V → Hp → VK → Prop} {g : List Rz → M Rz} {fa : List Sl → M (List Rz)} (hc : CallR X (.builtin id) r) (hd : CallD X.K E r g) (hm : X.mg x = none) (hv : bootBuiltins x = some (.builtin id)) (ha : DA X E (e :: es) fa)
    (hg : Gl X x := by rfl) (hn : x ≠ "__name__" := by decide) (hdb : (x == ("__debug__" : Str)) = false := by decide) (he : starEach (e :: es) X.env = (false, eval e X.env) :: starEach es X.env := by rfl) (hpl : (backTo pos (starEach es X.env)).any (·.1) = false := by rfl) :
    DE X E (.Call (.Name x p) (e :: es) [] pos) (fCall g fa) :=
  let ⟨_, a, b⟩ := ha; ⟨_, pe_callB hc hg hm hv a hn hdb he hpl, rd_call hd b⟩
theorem de_callTy {x : Str} {p pos : Pos} {e : Expr} {es : List Expr} {id : String} {r : List V → Hp → VK → Prop} {g : List Rz → M Rz} {fa : List Sl → M (List Rz)} (hc : CallR X (.type id) r) (hd : CallD X.K E r g) (hm : X.mg x = none) (hv : bootBuiltins x = some (.type id)) (ha : DA X E (e :: es) fa)
    (hg : Gl X x := by rfl) (hn : x ≠ "__name__" := by decide) (hdb : (x == ("__debug__" : Str)) = false := by decide) (he : starEach (e :: es) X.env = (false, eval e X.env) :: starEach es X.env := by rfl) (hpl : (backTo pos (starEach es X.env)).any (·.1) = false := by rfl) :
    DE X E (.Call (.Name x p) (e :: es) [] pos) (fCall g fa) :=
  let ⟨_, a, b⟩ := ha; ⟨_, pe_callTy hc hg hm hv a hn hdb he hpl, rd_call hd b⟩
theorem rvs1 {Hs H : Hp} {S : Addr → Bool} {vs : List V} {x : Rz} (h : RVs K Hs H S vs [x]) : ∃ v, vs = [v] ∧ RV K Hs H S v x := by
  cases h with
  | cons a b => cases b; exact ⟨_, rfl, a⟩
theorem rvs2 {Hs H : Hp} {S : Addr → Bool} {vs : List V} {x y : Rz} (h : RVs K Hs H S vs [x, y]) : ∃ v w, vs = [v, w] ∧ RV K Hs H S v x ∧ RV K Hs H S w y := by
  cases h with
  | cons a b =>
    obtain ⟨w, rfl, c⟩ := rvs1 b
    exact ⟨_, w, rfl, a, c⟩
def g1 (g : Rz → M Rz) (zs : List Rz) : M Rz :=
  match zs with
  | [x] => g x
  | _ => none
def g2 (g : Rz → Rz → M Rz) (zs : List Rz) : M Rz :=
  match zs with
  | [x, y] => g x y
  | _ => none
theorem cd1 {r : V → Hp → VK → Prop} {g : Rz → M Rz} (h : ∀ (H0 : Hp) (σ : L2.St) (H : Hp) (δ : List Sl) (S : Addr → Bool) (Hs : Hp) (v : V) (x : Rz) (z : Res Rz) (Q : VK), Loc K H0 σ H δ S → RV K Hs H S v x → g x = some z → EndE K E H S Q z → r v H Q)
    {r' : List V → Hp → VK → Prop} (hr : ∀ v H Q, r v H Q → r' [v] H Q) : CallD K E r' (g1 g) := by
  intro H0 σ H δ S Hs vs zs z Q L rs h' q
  unfold g1 at h'
  split at h'
  · obtain ⟨v, rfl, rv⟩ := rvs1 rs
    exact hr _ _ _ (h H0 σ H δ S Hs v _ z Q L rv h' q)
  · cases h'
def lenOf (x : Rz) : M Rz :=
  match seqOf x with
  | some (_, ds) => okM (.dat (.int ds.length))
  | none => none
theorem cd_len : CallD K E (fun xs H Q => ∃ p ys, xs = [.ref p] ∧ (SqL K H p ys ∨ SqT K H p ys) ∧ Q (.int ys.length) H) (g1 lenOf) := by
  refine cd1 (r := fun v H Q => ∃ p ys, [v] = [V.ref p] ∧ (SqL K H p ys ∨ SqT K H p ys) ∧ Q (.int ys.length) H) (fun H0 σ H δ S Hs v x z Q L rv h q => ?_) (fun _ _ _ h => h)
  unfold lenOf at h
  split at h
  · rename_i b ds e
    cases h
    unfold seqOf at e
    split at e
    · rename_i es e4
      cases e
      obtain ⟨a, xs, rfl, hs, hx, _⟩ := seq_list L rv e4
      refine ⟨a, xs, rfl, .inl hs, ?_⟩
      rw [DVs.len hx]; exact q _ H S .refl (.int _)
    · rename_i es e4
      cases e
      obtain ⟨a, xs, rfl, hs, hx, _⟩ := seq_tup L rv e4
      refine ⟨a, xs, rfl, .inr hs, ?_⟩
      rw [DVs.len hx]; exact q _ H S .refl (.int _)
    · cases e
  · cases h
def absOf (x : Rz) : M Rz :=
  match x.d? with
  | some (.int i) => okM (.dat (.int (if i < 0 then -i else i)))
  | _ => none
theorem cd_abs : CallD K E (fun xs H Q => ∃ i, xs = [.int i] ∧ Q (.int (if i < 0 then -i else i)) H) (g1 absOf) := by
  refine cd1 (r := fun v H Q => ∃ i, [v] = [V.int i] ∧ Q (.int (if i < 0 then -i else i)) H) (fun H0 σ H δ S Hs v x z Q L rv h q => ?_) (fun _ _ _ h => h)
  unfold absOf at h
  split at h
  · rename_i i e
    cases h
    have d := rv.full e
    cases d
    exact ⟨i, rfl, q _ H S .refl (.int _)⟩
  · cases h
def intOf (x : Rz) : M Rz :=
  match x.d? with
  | some (.int i) => okM (.dat (.int i))
  | some (.bool b) => okM (.dat (.int (if b then 1 else 0)))
  | _ => none
theorem cd_int : CallD K E (fun xs H Q => (∃ i, xs = [.int i] ∧ Q (.int i) H) ∨ ∃ k, xs = [.bl k] ∧ Q (.int (if k then 1 else 0)) H) (g1 intOf) := by
  refine cd1 (r := fun v H Q => (∃ i, [v] = [V.int i] ∧ Q (.int i) H) ∨ ∃ k, [v] = [V.bl k] ∧ Q (.int (if k then 1 else 0)) H) (fun H0 σ H δ S Hs v x z Q L rv h q => ?_) (fun _ _ _ h => h)
  unfold intOf at h
  split at h
  · rename_i i e
    cases h
    have d := rv.full e
    cases d
    exact .inl ⟨i, rfl, q _ H S .refl (.int _)⟩
  · rename_i i e
    cases h
    have d := rv.full e
    cases d
    exact .inr ⟨i, rfl, q _ H S .refl (.int _)⟩
  · cases h
def gMax (i j : Int) : Option PyData := some (.int (if j > i then j else i))
def gMin (i j : Int) : Option PyData := some (.int (if j < i then j else i))
theorem cd_I2 {g : Int → Int → Int} : CallD K E (fun xs H Q => ∃ i j, xs = [.int i, .int j] ∧ Q (.int (g i j)) H) (g2 (gI fun i j => some (.int (g i j)))) := by
  intro H0 σ H δ S Hs vs zs z Q L rs h q
  unfold g2 at h
  split at h
  · obtain ⟨v, w, rfl, r1, r2⟩ := rvs2 rs
    obtain ⟨i, j, d, e1, e2, e3, rfl⟩ := gI_inv h
    have d1 := r1.full e1
    have d2 := r2.full e2
    cases d1; cases d2; cases e3
    exact ⟨i, j, rfl, q _ H S .refl (.int _)⟩
  · cases h
theorem cd_max : CallD K E (fun xs H Q => ∃ i j, xs = [.int i, .int j] ∧ Q (.int (if j > i then j else i)) H) (g2 (gI gMax)) := cd_I2 (g := fun i j => if j > i then j else i)
theorem cd_min : CallD K E (fun xs H Q => ∃ i j, xs = [.int i, .int j] ∧ Q (.int (if j < i then j else i)) H) (g2 (gI gMin)) := cd_I2 (g := fun i j => if j < i then j else i)
def tupleOf (x : Rz) : M Rz :=
  match x.d? with
  | some (.list ds) => if kept x ds = true then okM (.dat (.tuple ds)) else none
  | some (.tuple ds) => if kept x ds = true then okM (.dat (.tuple ds)) else none
  | _ => none
theorem cd_tuple : CallD K E (fun xs H Q => ∃ p ys, xs = [.ref p] ∧ ((SqL K H p ys ∧ ∀ l, H l = none → Q (.ref l) (upd H l (.tup ys))) ∨ (SqT K H p ys ∧ Q (.ref p) H))) (g1 tupleOf) := by
  refine cd1 (r := fun v H Q => ∃ p ys, [v] = [V.ref p] ∧ ((SqL K H p ys ∧ ∀ l, H l = none → Q (.ref l) (upd H l (.tup ys))) ∨ (SqT K H p ys ∧ Q (.ref p) H))) (fun H0 σ H δ S Hs v x z Q L rv h q => ?_) (fun _ _ _ h => h)
  unfold tupleOf at h
  split at h
  · rename_i ds e
    split at h
    · rename_i k
      cases h
      obtain ⟨a, xs, rfl, hs, hx, hk⟩ := seq_list L rv e
      refine ⟨a, xs, rfl, .inl ⟨hs, fun l hl => ?_⟩⟩
      have g : Ext H S (upd H l (.tup xs)) S := Ext.same (same_new hl _)
      exact q _ _ S g (.tup (SqT.of (same_upd_hid L.lst hl)) (DVs.same g.hd (hk k)))
    · cases h
  · rename_i ds e
    split at h
    · rename_i k
      cases h
      obtain ⟨a, xs, rfl, hs, hx, hk⟩ := seq_tup L rv e
      exact ⟨a, xs, rfl, .inr ⟨hs, q _ H S .refl (.tup (hk k).2 (hk k).1)⟩⟩
    · cases h
  · cases h
def listOf (x : Rz) : M Rz :=
  match seqOf x with
  | some (_, ds) => if kept x ds = true then okM (.new ds) else none
  | none => none
theorem cd_list : CallD K E (fun xs H Q => ∃ p ys, xs = [.ref p] ∧ (SqL K H p ys ∨ SqT K H p ys) ∧ ∀ l, H l = none → Q (.ref l) (upd H l (.lst ys))) (g1 listOf) := by
  refine cd1 (r := fun v H Q => ∃ p ys, [v] = [V.ref p] ∧ (SqL K H p ys ∨ SqT K H p ys) ∧ ∀ l, H l = none → Q (.ref l) (upd H l (.lst ys))) (fun H0 σ H δ S Hs v x z Q L rv h q => ?_) (fun _ _ _ h => h)
  have fin : ∀ {xs : List V} {ds : List PyData}, DVs K (hid H S) xs ds → z = .ok (.new ds) → ∀ l, H l = none → Q (.ref l) (upd H l (.lst xs)) := fun {xs ds} hx e l hl => by
    subst e
    exact q _ _ (ins S l) (Ext.ins hl) ⟨l, xs, rfl, ins_same, hl, upd_same, by rw [hid_ins hl]; exact hx⟩
  unfold listOf at h
  split at h
  · rename_i b ds e
    split at h
    · rename_i k
      cases h
      unfold seqOf at e
      split at e
      · rename_i es e4
        cases e
        obtain ⟨a, xs, rfl, hs, hx, hk⟩ := seq_list L rv e4
        exact ⟨a, xs, rfl, .inl hs, fin (hk k) rfl⟩
      · rename_i es e4
        cases e
        obtain ⟨a, xs, rfl, hs, hx, hk⟩ := seq_tup L rv e4
        exact ⟨a, xs, rfl, .inr hs, fin (hk k).1 rfl⟩
      · cases e
    · cases h
  · cases h
def datOf (x : Rz) : Option PyData :=
  match x with
  | .dat d => some d
  | .use d => if noL d = true then some d else none
  | _ => none
theorem datOf_ok {H0 Hs H : Hp} {σ : L2.St} {δ : List Sl} {S : Addr → Bool} {v : V} {x : Rz} {d : PyData} (L : Loc K H0 σ H δ S) (r : RV K Hs H S v x) (h : datOf x = some d) : DV K (hid H S) v d := by
  cases x with
  | dat e => cases h; exact r
  | use e =>
    unfold datOf at h
    dsimp only at h
    split at h
    · cases h; exact DV.ts L.tk r (by assumption)
    · cases h
  | new e => cases h
  | var e => cases h
  | exc e => cases h
def datsOf : List Rz → Option (List PyData)
  | [] => some []
  | x :: xs => match datOf x, datsOf xs with
    | some d, some ds => some (d :: ds)
    | _, _ => none
theorem datsOf_ok {H0 Hs H : Hp} {σ : L2.St} {δ : List Sl} {S : Addr → Bool} (L : Loc K H0 σ H δ S) : ∀ {vs : List V} {zs : List Rz} {ds : List PyData}, RVs K Hs H S vs zs → datsOf zs = some ds → DVs K (hid H S) vs ds
  | _, _, _, .nil, h => by cases h; exact .nil
  | _, _, _, .cons r t, h => by
    unfold datsOf at h
    split at h
    · rename_i d ds e1 e2
      cases h
      exact .cons (datOf_ok L r e1) (datsOf_ok L t e2)
    · cases h
def gTup (zs : List Rz) : M Rz :=
  match datsOf zs with
  | some ds => if ds.length ≤ sizeLine then okM (.dat (.tuple ds)) else none
  | none => none
def gLst (zs : List Rz) : M Rz :=
  match datsOf zs with
  | some ds => if ds.length ≤ sizeLine then okM (.new ds) else none
  | none => none
theorem de_tup {es : List Expr} {x1} {pos : Pos} {fa : List Sl → M (List Rz)} (h : DA X E es fa) : DE X E (.Tuple es x1 pos) (fCall gTup fa) := by
  obtain ⟨t, a, b⟩ := h
  refine ⟨_, pe_tup a, rd_call (r := fun xs H1 Q => xs.length ≤ sizeLine ∧ ∀ p, H1 p = none → Q (.ref p) (upd H1 p (.tup xs))) ?_ b⟩
  intro H0 σ H δ S Hs vs zs z Q L rs h q
  unfold gTup at h
  split at h
  · rename_i ds e
    split at h
    · rename_i hl
      cases h
      have hx := datsOf_ok L rs e
      refine ⟨by rw [DVs.len hx]; exact hl, fun p hp => ?_⟩
      have g : Ext H S (upd H p (.tup vs)) S := Ext.same (same_new hp _)
      exact q _ _ S g (.tup (SqT.of (same_upd_hid L.lst hp)) (DVs.same g.hd hx))
    · cases h
  · cases h
theorem de_lst {es : List Expr} {pos : Pos} {fa : List Sl → M (List Rz)} (h : DA X E es fa) : DE X E (.List es pos) (fCall gLst fa) := by
  obtain ⟨t, a, b⟩ := h
  refine ⟨_, pe_lst a, rd_call (r := fun xs H1 Q => xs.length ≤ sizeLine ∧ ∀ p, H1 p = none → Q (.ref p) (upd H1 p (.lst xs))) ?_ b⟩
  intro H0 σ H δ S Hs vs zs z Q L rs h q
  unfold gLst at h
  split at h
  · rename_i ds e
    split at h
    · rename_i hl
      cases h
      have hx := datsOf_ok L rs e
      refine ⟨by rw [DVs.len hx]; exact hl, fun p hp => ?_⟩
      exact q _ _ (ins S p) (Ext.ins hp) ⟨p, vs, rfl, ins_same, hp, upd_same, by rw [hid_ins hp]; exact hx⟩
    · cases h
  · cases h
end
end D3
namespace D3
open PySem PySem.Spec PyProof.Rows L2 L3
variable [Ecx]
structure Fit (n : Nat) (X : Cx) (E : XK) : Prop where
  hx : Passes (CXR X.prog X.w) X E
  ra : RaisesTo X E
  po : PassesOwn (model X.prog X.w) X.A X.env X.xe
  cm : X.calm = true
  rm : Room n X.A
  nd : X.N.Nodup
inductive Out where
  | val (d : PyData)
  | fresh (ds : List PyData)
  | mine (d : PyData)
  | two (ds es : List PyData)
  | lsts (ds : List PyData)
  | newls (ds : List PyData)
inductive Fl where
  | next (δ : List Sl)
  | ret (o : Out)
  | brk (δ : List Sl)
  | cnt (δ : List Sl)
  | exc (C : Ex)
def newL (H0 H : Hp) : Hp := fun b => match H0 b with
  | none => H b
  | some _ => (match H b with | some (.lst _) => none | o => o)
theorem newL_up {H0 H : Hp} : Same (newL H0 H) H := fun b o h => by
  unfold newL at h
  split at h
  · exact h
  · split at h
    · cases h
    · exact h
theorem newL_mono {H0 H1 H : Hp} (g : Same H0 H1) : Same (newL H1 H) (newL H0 H) := fun b o h => by
  unfold newL at *
  cases e1 : H1 b with
  | none =>
    rw [e1] at h
    rw [g.free e1]; exact h
  | some u =>
    rw [e1] at h
    dsimp only at h
    cases e0 : H0 b with
    | none =>
      dsimp only
      split at h
      · cases h
      · exact h
    | some u' => exact h
theorem newL_tk {H0 H : Hp} : TK H (newL H0 H) := by
  refine ⟨fun a xs h => ?_, fun a o u h => ?_⟩ <;>
  · unfold newL
    split
    · exact h
    · rw [h]
theorem newL_new {H0 H : Hp} {a : Addr} (h : H0 a = none) : newL H0 H a = H a := by unfold newL; rw [h]
def wo (H : Hp) (a : Addr) : Hp := fun b => if b = a then none else H b
theorem wo_up {H : Hp} {a : Addr} : Same (wo H a) H := fun b o h => by
  unfold wo at h
  split at h
  · cases h
  · exact h
theorem wo_hid {H : Hp} {S : Addr → Bool} {a : Addr} (h : S a = true) : Same (hid H S) (wo H a) := fun b o e => by
  have : b ≠ a := by intro z; subst z; rw [hid_t h] at e; cases e
  unfold wo
  rw [if_neg this]; exact hid_up _ _ e
def RetOk (K : PySem.W.Frag) (H0 : Hp) (Q : VK) : Out → Prop
  | .val d => ∀ v H, Same H0 H → DV K H v d → Q v H
  | .fresh ds => ∀ a xs H, Same H0 H → H0 a = none → H a = some (.lst xs) → DVs K H xs ds → noLs ds = true → Q (.ref a) H
  | .mine d => ∀ v H, Same H0 H → DV K (newL H0 H) v d → Q v H
  | .two ds es => ∀ c a b xs ys H, Same H0 H → H0 c = none → H0 a = none → H0 b = none → H c = some (.tup [.ref a, .ref b]) → H a = some (.lst xs) → H b = some (.lst ys) → DVs K H xs ds → DVs K H ys es → noLs ds = true → noLs es = true → Q (.ref c) H
  | .lsts ds => ∀ a xs H, Same H0 H → H0 a = none → H a = some (.lst xs) → DVs K (wo H a) xs ds → Q (.ref a) H
  | .newls ds => ∀ a xs H, Same H0 H → H0 a = none → H a = some (.lst xs) → DVs K (newL H0 (wo H a)) xs ds → Q (.ref a) H
def EndS (K : PySem.W.Frag) (E : XK) (H0 : Hp) (D : Ends) : Fl → Prop
  | .next δ => ∀ σ H S, Loc K H0 σ H δ S → D.nx σ H
  | .brk δ => ∀ σ H S, Loc K H0 σ H δ S → D.bk σ H
  | .cnt δ => ∀ σ H S, Loc K H0 σ H δ S → D.ct σ H
  | .ret o => RetOk K H0 D.rt o
  | .exc C => ∀ H, Same H0 H → E (.ref (ecx C)) none H
def RdS (K : PySem.W.Frag) (E : XK) (t : TS) (f : List Sl → Option Fl) : Prop :=
  ∀ (H0 : Hp) (σ : L2.St) (H : Hp) (δ : List Sl) (S : Addr → Bool) (D : Ends) (fl : Fl), Loc K H0 σ H δ S → f δ = some fl → EndS K E H0 D fl → t D σ H
def DS (X : Cx) (E : XK) (st : Stmt) (f : List Sl → Option Fl) : Prop := ∃ t, PS X st t ∧ RdS X.K E t f
def DSs (X : Cx) (E : XK) (st : List Stmt) (f : List Sl → Option Fl) : Prop := ∃ t, PSs X st t ∧ RdS X.K E t f
theorem RetOk.up {K : PySem.W.Frag} {H0 H1 : Hp} {Q : VK} {o : Out} (g : Same H0 H1) (h : RetOk K H0 Q o) : RetOk K H1 Q o := by
  cases o with
  | val d => exact fun v H s => h v H (g.trans s)
  | fresh ds => exact fun a xs H s n => h a xs H (g.trans s) (g.free n)
  | mine d => exact fun v H s dv => h v H (g.trans s) (DV.same (newL_mono g) dv)
  | two ds es => exact fun c a b xs ys H s n1 n2 n3 => h c a b xs ys H (g.trans s) (g.free n1) (g.free n2) (g.free n3)
  | lsts ds => exact fun a xs H s n => h a xs H (g.trans s) (g.free n)
  | newls ds => exact fun a xs H s n ha hx => h a xs H (g.trans s) (g.free n) ha (DVs.same (newL_mono g) hx)
def fNext (δ : List Sl) : Option Fl := some (.next δ)
def fSeq (f g : List Sl → Option Fl) (δ : List Sl) : Option Fl :=
  match f δ with
  | some (.next δ') => g δ'
  | r => r
section
variable {X : Cx} {E : XK} {K : PySem.W.Frag}
theorem dss_nil : DSs X E [] fNext := ⟨_, pss_nil, fun H0 σ H δ S D fl L h q => by cases h; exact q σ H S L⟩
theorem rd_seq {t u : TS} {f g : List Sl → Option Fl} (ht : RdS K E t f) (hu : RdS K E u g) : RdS K E (tSeq t u) (fSeq f g) := by
  intro H0 σ H δ S D fl L h q
  unfold fSeq at h
  split at h
  · rename_i δ' e
    exact ht H0 σ H δ S _ _ L e fun σ1 H1 S1 L1 => hu H0 σ1 H1 δ' S1 D fl L1 h q
  · rename_i r hr
    refine ht H0 σ H δ S _ fl L h ?_
    cases fl with
    | next δ' => exact absurd h (hr δ')
    | ret o => exact q
    | brk δ' => exact q
    | cnt δ' => exact q
    | exc C => exact q
theorem dss_cons {st : Stmt} {rest : List Stmt} {f g : List Sl → Option Fl} (h1 : DS X E st f) (h2 : DSs X E rest g) : DSs X E (st :: rest) (fSeq f g) :=
  let ⟨_, a, b⟩ := h1; let ⟨_, c, d⟩ := h2; ⟨_, pss_cons a c, rd_seq b d⟩
theorem dss_one {st : Stmt} {f : List Sl → Option Fl} (h1 : DS X E st f) : DSs X E [st] f := let ⟨_, a, b⟩ := h1; ⟨_, pss_one a, b⟩
def bS {α : Type} (m : M α) (k : α → Option Fl) : Option Fl :=
  match m with
  | some (.ok a) => k a
  | some (.err C) => some (.exc C)
  | none => none
theorem bS_inv {α : Type} {m : M α} {k : α → Option Fl} {r : Fl} (h : bS m k = some r) : (∃ a, m = some (.ok a) ∧ k a = some r) ∨ ∃ C, m = some (.err C) ∧ r = .exc C := by
  unfold bS at h
  split at h
  · exact .inl ⟨_, rfl, h⟩
  · cases h; exact .inr ⟨_, rfl, rfl⟩
  · cases h
theorem exc_ext {H0 H : Hp} {σ : L2.St} {δ : List Sl} {S : Addr → Bool} {D : Ends} {C : Ex} (L : Loc K H0 σ H δ S) (q : EndS K E H0 D (.exc C)) : ∀ H' S', Ext H S H' S' → E (.ref (ecx C)) none H' := fun H' S' g => q H' (L.old.trans g.up)
def slotOf (x : Rz) : Option Sl :=
  match x with
  | .dat d => some (.dat d)
  | .new ds => some (.own ds)
  | .use d => if noL d = true then some (.dat d) else none
  | .exc C => some (.exc C)
  | .var _ => none
theorem Loc.slot {H0 Hs H : Hp} {σ : L2.St} {δ : List Sl} {S : Addr → Bool} {v : V} {x : Rz} {s : Sl} {i : Nat} (L : Loc K H0 σ H δ S) (hs : ∀ (j : Nat) (ds : List PyData), δ[j]? = some (Sl.own ds) → ∃ a, σ[j]? = some (some (V.ref a)) ∧ Hs a ≠ none) (hk : ∀ (j : Nat) (b : Addr), Kid (hid H S) σ δ j b → Hs b ≠ none) (r : RV K Hs H S v x) (h : slotOf x = some s) :
    Loc K H0 (σ.set i (some v)) H (δ.set i s) S := by
  cases x with
  | dat d => cases h; exact L.put (fun _ z => nomatch z) (fun d' e => by cases e; exact ⟨v, rfl, r⟩) (fun _ z => nomatch z)
  | new ds =>
    cases h
    obtain ⟨a, xs, rfl, z, n, ha, hx⟩ := r
    refine L.putOwn z ha hx (fun j es e c => ?_) fun j k => hk j a k n
    obtain ⟨b, e1, e2⟩ := hs j es e
    rw [c] at e1; cases e1
    exact e2 n
  | use d =>
    unfold slotOf at h
    dsimp only at h
    split at h
    · rename_i k
      cases h
      exact L.put (fun _ z => nomatch z) (fun d' e => by cases e; exact ⟨v, rfl, DV.ts L.tk r k⟩) (fun _ z => nomatch z)
    · cases h
  | var ds => cases h
  | exc C =>
    cases h
    obtain ⟨ea, rfl, z⟩ := r
    exact L.put (fun _ z => nomatch z) (fun _ z => nomatch z) (fun C' e => by cases e; exact ⟨ea, rfl, z⟩)
theorem Loc.owned {H0 H : Hp} {σ : L2.St} {δ : List Sl} {S : Addr → Bool} (L : Loc K H0 σ H δ S) : ∀ (j : Nat) (ds : List PyData), δ[j]? = some (Sl.own ds) → ∃ a, σ[j]? = some (some (V.ref a)) ∧ H a ≠ none := fun j ds e => by
  obtain ⟨a, xs, e1, _, e3, _⟩ := L.own j ds e
  exact ⟨a, e1, by rw [e3]; exact (fun z => nomatch z)⟩
def fSet (i : Nat) (f : List Sl → M Rz) (δ : List Sl) : Option Fl := bS (f δ) fun x => match slotOf x with | some s => some (.next (δ.set i s)) | none => none
theorem rd_set {i : Nat} {te : TE} {f : List Sl → M Rz} (h : RdE K E te f) : RdS K E (tAsg te (gName i)) (fSet i f) := by
  intro H0 σ H δ S D fl L e q
  rcases bS_inv e with ⟨x, h1, e⟩ | ⟨C, h1, rfl⟩
  · refine h H0 σ H δ S _ _ L h1 fun v H1 S1 g1 rv => ?_
    split at e
    · rename_i s e2
      cases e
      exact q _ H1 S1 ((L.ext g1).slot L.owned (L.kids g1) rv e2)
    · cases e
  · exact h H0 σ H δ S _ _ L h1 (exc_ext L q)
theorem ds_set (i : Nat) {x : Str} {e : Expr} {f : List Sl → M Rz} {pos pos' : Pos} (nd : X.N.Nodup) (he : DE X E e f) (hi : X.N[i]? = some x := by rfl) (hx : L2.Loc X.env.scope x := by first | exact Or.inl rfl | exact Or.inr rfl) (hs : swapsWith e (some (.Name x pos')) pos.line X.env = pure false := by rfl) (hf : X.fn x = true ∨ X.env.scope.names.lookup x = some .local := by first | exact .inl rfl | exact .inr rfl) :
    DS X E (.Assign [.Name x pos'] e pos) (fSet i f) := let ⟨_, a, b⟩ := he; ⟨_, ps_set nd hi hx a hs hf, rd_set b⟩
def RdG (K : PySem.W.Frag) (t : TG) (g : PyData → List Sl → Option (List Sl)) : Prop :=
  ∀ (H0 : Hp) (σ : L2.St) (H : Hp) (δ δ' : List Sl) (S : Addr → Bool) (v : V) (d : PyData) (Q : L2.St → Hp → Prop), Loc K H0 σ H δ S → DV K (hid H S) v d → g d δ = some δ' → (∀ σ', Loc K H0 σ' H δ' S → Q σ' H) → t v σ H Q
def DG (X : Cx) (tg : Expr) (g : PyData → List Sl → Option (List Sl)) : Prop := ∃ t, PG X tg t ∧ RdG X.K t g
def tName (i : Nat) (d : PyData) (δ : List Sl) : Option (List Sl) := some (δ.set i (.dat d))
theorem dg_name (i : Nat) {x : Str} {pos : Pos} (nd : X.N.Nodup) (hi : X.N[i]? = some x := by rfl) (hx : L2.Loc X.env.scope x := by first | exact Or.inl rfl | exact Or.inr rfl) (hf : X.fn x = true ∨ X.env.scope.names.lookup x = some .local := by first | exact .inl rfl | exact .inr rfl) : DG X (.Name x pos) (tName i) :=
  ⟨_, pg_name nd hi hx hf, fun H0 σ H δ δ' S v d Q L dv h q => by
    cases h
    exact q _ (L.put (fun _ z => nomatch z) (fun d' e => by cases e; exact ⟨v, rfl, dv⟩) (fun _ z => nomatch z))⟩
def RdGs (K : PySem.W.Frag) (t : TGs) (g : List PyData → List Sl → Option (List Sl)) : Prop :=
  ∀ (H0 : Hp) (σ : L2.St) (H : Hp) (δ δ' : List Sl) (S : Addr → Bool) (vs : List V) (ds : List PyData) (Q : L2.St → Hp → Prop), Loc K H0 σ H δ S → DVs K (hid H S) vs ds → g ds δ = some δ' → (∀ σ', Loc K H0 σ' H δ' S → Q σ' H) → t vs σ H Q
def DGs (X : Cx) (tg : List Expr) (g : List PyData → List Sl → Option (List Sl)) : Prop := ∃ t, PGs X tg t ∧ RdGs X.K t g
def tsNil (ds : List PyData) (δ : List Sl) : Option (List Sl) := match ds with | [] => some δ | _ => none
def tsCons (g : PyData → List Sl → Option (List Sl)) (h : List PyData → List Sl → Option (List Sl)) (ds : List PyData) (δ : List Sl) : Option (List Sl) :=
  match ds with
  | d :: r => (match g d δ with | some δ' => h r δ' | none => none)
  | [] => none
theorem dgs_nil : DGs X [] tsNil := ⟨_, pgs_nil, fun H0 σ H δ δ' S vs ds Q L dv h q => by
    unfold tsNil at h
    split at h
    · cases h; cases dv; exact ⟨rfl, q _ L⟩
    · cases h⟩
theorem dgs_cons {e : Expr} {es : List Expr} {g : PyData → List Sl → Option (List Sl)} {h : List PyData → List Sl → Option (List Sl)} (h1 : DG X e g) (h2 : DGs X es h)
    (hs : (assignEach (e :: es) X.env).map (·.2) = assign e X.env :: (assignEach es X.env).map (·.2) := by rfl) : DGs X (e :: es) (tsCons g h) := by
  obtain ⟨t, a, b⟩ := h1
  obtain ⟨u, c, d⟩ := h2
  refine ⟨_, pgs_cons a c hs, fun H0 σ H δ δ' S vs ds Q L dv h q => ?_⟩
  unfold tsCons at h
  split at h
  · split at h
    · rename_i δ1 e1
      cases dv with
      | cons x y => exact ⟨_, _, rfl, b H0 σ H δ δ1 S _ _ _ L x e1 fun σ1 L1 => d H0 σ1 H δ1 δ' S _ _ _ L1 y h q⟩
    · cases h
  · cases h
def tTupT (g : List PyData → List Sl → Option (List Sl)) (k : Nat) (d : PyData) (δ : List Sl) : Option (List Sl) :=
  match d with
  | .tuple ds => if ds.length = k then g ds δ else none
  | _ => none
theorem dg_tup {es : List Expr} {kk : Nat} {g : List PyData → List Sl → Option (List Sl)} {k n : Nat} {pos : Pos} (Z : Fit n X E) (h : DGs X es g) (hn : (assignEach es X.env).length = k := by rfl) (hst : (assignEach es X.env).findIdx? (·.1) = none := by rfl) : DG X (.Tuple es kk pos) (tTupT g k) := by
  obtain ⟨t, a, b⟩ := h
  refine ⟨_, pg_tup Z.cm a hn hst, fun H0 σ H δ δ' S v d Q L dv h q => ?_⟩
  unfold tTupT at h
  split at h
  · rename_i ds
    split at h
    · rename_i hl
      cases dv with
      | tup hs hx => exact ⟨_, _, rfl, SameT hid_up hs, by rw [DVs.len hx]; exact hl, b H0 σ H δ δ' S _ _ _ L hx h q⟩
    · cases h
  · cases h
def fAsg (g : PyData → List Sl → Option (List Sl)) (f : List Sl → M Rz) (δ : List Sl) : Option Fl := bS (f δ) fun x => match datOf x with | some d => (match g d δ with | some δ' => some (.next δ') | none => none) | none => none
theorem ds_asg {tg e : Expr} {g : PyData → List Sl → Option (List Sl)} {f : List Sl → M Rz} {pos : Pos} (he : DE X E e f) (hg : DG X tg g) (hs : swapsWithSole [tg] e pos.line X.env = pure false := by rfl) (hw : swappedStores [tg] e X.env = pure none := by rfl)
    (h1 : (assignEach [tg] X.env).map (·.2) = [assign tg X.env] := by rfl) : DS X E (.Assign [tg] e pos) (fAsg g f) := by
  obtain ⟨t, a, b⟩ := he
  obtain ⟨u, c, d⟩ := hg
  refine ⟨_, ps_asg a c hs hw h1, fun H0 σ H δ S D fl L h q => ?_⟩
  rcases bS_inv h with ⟨x, h1, h⟩ | ⟨C, h1, rfl⟩
  · refine b H0 σ H δ S _ _ L h1 fun v H1 S1 g1 rv => ?_
    split at h
    · rename_i dd e1
      split at h
      · rename_i δ' e2
        cases h
        exact d H0 σ H1 δ δ' S1 v dd _ (L.ext g1) (datOf_ok (L.ext g1) rv e1) e2 fun σ' L' => q σ' H1 S1 L'
      · cases h
    · cases h
  · exact b H0 σ H δ S _ _ L h1 (exc_ext L q)
def fPar (i j : Nat) (fa : List Sl → M (List Rz)) (δ : List Sl) : Option Fl := bS (fa δ) fun zs => match zs with | [x, y] => (match datOf x, datOf y with | some d, some e => some (.next ((δ.set i (.dat d)).set j (.dat e))) | _, _ => none) | _ => none
theorem ds_par (i j : Nat) {n : Nat} {x y : Str} {a b : Expr} {fa : List Sl → M (List Rz)} {px py pt : Pos} {kt k2 pt2} {pos : Pos} (Z : Fit n X E) (ha : DA X E [a, b] fa)
    (hp : ∀ t, PA X [a, b] t → PS X (.Assign [.Tuple [.Name x px, .Name y py] kt pt] (.Tuple [a, b] k2 pt2) pos) (tPar i j t)) : DS X E (.Assign [.Tuple [.Name x px, .Name y py] kt pt] (.Tuple [a, b] k2 pt2) pos) (fPar i j fa) := by
  obtain ⟨t, a1, b1⟩ := ha
  refine ⟨_, hp t a1, fun H0 σ H δ S D fl L h q => ?_⟩
  rcases bS_inv h with ⟨zs, h1, h⟩ | ⟨C, h1, rfl⟩
  · refine b1 H0 σ H δ S _ _ L h1 fun vs H1 S1 g1 rs => ?_
    split at h
    · rename_i zx zy
      split at h
      · rename_i d e e1 e2
        cases h
        obtain ⟨v, w, rfl, r1, r2⟩ := rvs2 rs
        have L1 := L.ext g1
        have L2 := L1.put (i := i) (o := some v) (s := .dat d) (fun _ z => nomatch z) (fun d' e => by cases e; exact ⟨v, rfl, datOf_ok L1 r1 e1⟩) (fun _ z => nomatch z)
        have L3 := L2.put (i := j) (o := some w) (s := .dat e) (fun _ z => nomatch z) (fun d' e => by cases e; exact ⟨w, rfl, datOf_ok L1 r2 e2⟩) (fun _ z => nomatch z)
        exact ⟨v, w, rfl, q _ H1 S1 L3⟩
      · cases h
    · cases h
  · exact b1 H0 σ H δ S _ _ L h1 (exc_ext L q)
def outOf (x : Rz) : Option Out :=
  match x with
  | .dat d => some (.val d)
  | .use d => some (.val d)
  | .new ds => if noLs ds = true then some (.fresh ds) else some (.lsts ds)
  | .var ds => if noLs ds = true then some (.fresh ds) else some (.lsts ds)
  | .exc _ => none
def fRet (f : List Sl → M Rz) (δ : List Sl) : Option Fl := bS (f δ) fun x => match outOf x with | some o => some (.ret o) | none => none
theorem ds_ret {e : Expr} {f : List Sl → M Rz} {pos : Pos} (he : DE X E e f) : DS X E (.Return (some e) pos) (fRet f) := by
  obtain ⟨t, a, b⟩ := he
  refine ⟨_, ps_ret a, fun H0 σ H δ S D fl L h q => ?_⟩
  rcases bS_inv h with ⟨x, h1, h⟩ | ⟨C, h1, rfl⟩
  · refine b H0 σ H δ S _ _ L h1 fun v H1 S1 g1 rv => ?_
    have L1 := L.ext g1
    split at h
    · rename_i o e1
      cases h
      unfold outOf at e1
      split at e1
      · cases e1; exact q v H1 L1.old (DV.same hid_up rv)
      · cases e1; exact q v H1 L1.old rv
      · split at e1
        · rename_i k
          cases e1
          obtain ⟨a, xs, rfl, z, n, ha, hx⟩ := rv
          exact q a xs H1 L1.old (L1.frs a z) ha (DVs.same hid_up hx) k
        · cases e1
          obtain ⟨a, xs, rfl, z, n, ha, hx⟩ := rv
          exact q a xs H1 L1.old (L1.frs a z) ha (DVs.same (wo_hid z) hx)
      · split at e1
        · rename_i k
          cases e1
          obtain ⟨a, xs, rfl, z, ha, hx⟩ := rv
          exact q a xs H1 L1.old (L1.frs a z) ha (DVs.same hid_up hx) k
        · cases e1
          obtain ⟨a, xs, rfl, z, ha, hx⟩ := rv
          exact q a xs H1 L1.old (L1.frs a z) ha (DVs.same (wo_hid z) hx)
      · cases e1
    · cases h
  · exact b H0 σ H δ S _ _ L h1 (exc_ext L q)
def fDrop (f : List Sl → M Rz) (δ : List Sl) : Option Fl := bS (f δ) fun _ => some (.next δ)
theorem ds_expr {e : Expr} {f : List Sl → M Rz} {pos : Pos} (he : DE X E e f) (hs : swapsWith e none pos.line X.env = pure false := by rfl) : DS X E (.Expr e pos) (fDrop f) := by
  obtain ⟨t, a, b⟩ := he
  refine ⟨_, ps_expr a hs, fun H0 σ H δ S D fl L h q => ?_⟩
  rcases bS_inv h with ⟨x, h1, h⟩ | ⟨C, h1, rfl⟩
  · cases h
    exact b H0 σ H δ S _ _ L h1 fun v H1 S1 g1 rv => q σ H1 S1 (L.ext g1)
  · exact b H0 σ H δ S _ _ L h1 (exc_ext L q)
def fRaise (C : Ex) (fa : List Sl → M (List Rz)) (δ : List Sl) : Option Fl := bS (fa δ) fun zs => if zs.length ≤ sizeLine then some (.exc C) else none
theorem RVs.len {Hs H : Hp} {S : Addr → Bool} : ∀ {vs : List V} {zs : List Rz}, RVs K Hs H S vs zs → vs.length = zs.length
  | _, _, .nil => rfl
  | _, _, .cons _ t => by rw [List.length_cons, List.length_cons, RVs.len t]
theorem ds_raise (C : Ex) {n : Nat} {x : Str} {e : Expr} {es : List Expr} {fa : List Sl → M (List Rz)} {np cpos pos : Pos} (Z : Fit n X E) (hm : X.mg x = some (.ref (ecx C)))
    (q : PySem.W.excIn X.K (ecx C) [.type "ValueError", .type "Exception", .type "BaseException", .type "object"] "ValueError.__new__" = true) (ha : DA X E (e :: es) fa)
    (hg : Gl X x := by rfl) (hdb : (x == ("__debug__" : Str)) = false := by decide)
    (he : starEach (e :: es) X.env = (false, eval e X.env) :: starEach es X.env := by rfl) (hpl : (backTo cpos (starEach es X.env)).any (·.1) = false := by rfl) :
    DS X E (.Raise (some (.Call (.Name x np) (e :: es) [] cpos)) none pos) (fRaise C fa) := by
  obtain ⟨t, a, b⟩ := ha
  refine ⟨_, ps_raise Z.ra Z.cm hm q a hg hdb he hpl, fun H0 σ H δ S D fl L h q => ?_⟩
  rcases bS_inv h with ⟨zs, h1, h⟩ | ⟨C', h1, rfl⟩
  · refine b H0 σ H δ S _ _ L h1 fun vs H1 S1 g1 rs => ?_
    split at h
    · rename_i hl
      cases h
      exact ⟨by rw [RVs.len rs]; exact hl, q H1 (L.old.trans g1.up)⟩
    · cases h
  · exact b H0 σ H δ S _ _ L h1 (exc_ext L q)
def fIfS (c : List Sl → M Bool) (f g : List Sl → Option Fl) (δ : List Sl) : Option Fl := bS (c δ) fun b => if b = true then f δ else g δ
theorem ds_if {c : Expr} {a b : List Stmt} {fc : List Sl → M Bool} {f g : List Sl → Option Fl} {pos : Pos} (hc : DT X E c fc) (ha : DSs X E a f) (hb : DSs X E b g) : DS X E (.If c a b pos) (fIfS fc f g) := by
  obtain ⟨tc, c1, c2⟩ := hc
  obtain ⟨t, a1, a2⟩ := ha
  obtain ⟨u, b1, b2⟩ := hb
  refine ⟨_, ps_if c1 a1 b1, fun H0 σ H δ S D fl L h q => ?_⟩
  rcases bS_inv h with ⟨k, h1, h⟩ | ⟨C, h1, rfl⟩
  · refine c2 H0 σ H δ S _ _ L h1 fun H1 S1 g1 => ?_
    cases k with
    | true => exact iteT (a2 H0 σ H1 δ S1 D fl (L.ext g1) h q)
    | false => exact iteF (b2 H0 σ H1 δ S1 D fl (L.ext g1) h q)
  · exact c2 H0 σ H δ S _ _ L h1 (exc_ext L q)
def whN (c : List Sl → M Bool) (b : List Sl → Option Fl) : Nat → List Sl → Option Fl
  | 0, _ => none
  | n + 1, δ => bS (c δ) fun k => if k = true then (match b δ with | some (.next δ') => whN c b n δ' | some (.cnt δ') => whN c b n δ' | some (.brk δ') => some (.next δ') | r => r) else some (.next δ)
theorem whN_mono {c : List Sl → M Bool} {b : List Sl → Option Fl} {r : Fl} : ∀ {n m : Nat} {δ : List Sl}, n ≤ m → whN c b n δ = some r → whN c b m δ = some r
  | 0, _, _, _, h => nomatch h
  | n + 1, 0, _, l, _ => absurd l (by omega)
  | n + 1, m + 1, δ, l, h => by
    unfold whN at h ⊢
    rcases bS_inv h with ⟨k, h1, h⟩ | ⟨C, h1, rfl⟩
    · rw [h1]
      show (if k = true then _ else _) = _
      cases k with
      | false => exact h
      | true =>
        rw [if_pos rfl] at h ⊢
        split at h
        · exact whN_mono (by omega) h
        · exact whN_mono (by omega) h
        · exact h
        · exact h
    · rw [h1]; rfl
open Classical in
noncomputable def fWh (c : List Sl → M Bool) (b : List Sl → Option Fl) (δ : List Sl) : Option Fl := if h : ∃ n r, whN c b n δ = some r then whN c b (Classical.choose h) δ else none
theorem fWh_of {c : List Sl → M Bool} {b : List Sl → Option Fl} {n : Nat} {δ : List Sl} {r : Fl} (h : whN c b n δ = some r) : fWh c b δ = some r := by
  unfold fWh
  have hx : ∃ n r, whN c b n δ = some r := ⟨n, r, h⟩
  rw [dif_pos hx]
  obtain ⟨r', h'⟩ := Classical.choose_spec hx
  have e1 := whN_mono (Nat.le_max_left n (Classical.choose hx)) h
  have e2 := whN_mono (Nat.le_max_right n (Classical.choose hx)) h'
  rw [e1] at e2; cases e2
  exact h'
theorem fWh_inv {c : List Sl → M Bool} {b : List Sl → Option Fl} {δ : List Sl} {r : Fl} (h : fWh c b δ = some r) : ∃ n, whN c b n δ = some r := by
  unfold fWh at h
  split at h
  · exact ⟨_, h⟩
  · cases h
theorem ds_while {n : Nat} {c : Expr} {body : List Stmt} {fc : List Sl → M Bool} {fb : List Sl → Option Fl} {pos : Pos} (Z : Fit n X E) (hc : DT X E c fc) (hb : DSs X E body fb) : DS X E (.While c body [] pos) (fWh fc fb) := by
  obtain ⟨tc, c1, c2⟩ := hc
  obtain ⟨t, b1, b2⟩ := hb
  refine ⟨_, ps_while Z.po c1 b1, fun H0 σ H δ S D fl L h q => ?_⟩
  obtain ⟨m, hm⟩ := fWh_inv h
  refine ⟨fun m σ H => ∃ δ S, Loc X.K H0 σ H δ S ∧ whN fc fb m δ = some fl, ⟨m, δ, S, L, hm⟩, ?_⟩
  rintro m σ H ⟨δ, S, L, hm⟩
  cases m with
  | zero => exact nomatch hm
  | succ m =>
    unfold whN at hm
    rcases bS_inv hm with ⟨k, h1, h⟩ | ⟨C, h1, rfl⟩
    · refine c2 H0 σ H δ S _ _ L h1 fun H1 S1 g1 => ?_
      have L1 := L.ext g1
      cases k with
      | false =>
        cases h
        exact iteF (q σ H1 S1 L1)
      | true =>
        rw [if_pos rfl] at h ⊢
        refine ⟨fun σ' H' => ∃ δ' S', Loc X.K H0 σ' H' δ' S' ∧ whN fc fb m δ' = some fl, fun σ' H' z => ⟨m, Nat.lt_succ_self m, z⟩, ?_⟩
        split at h
        · rename_i δ' e
          exact b2 H0 σ H1 δ S1 _ _ L1 e fun σ' H' S' L' => ⟨δ', S', L', h⟩
        · rename_i δ' e
          exact b2 H0 σ H1 δ S1 _ _ L1 e fun σ' H' S' L' => ⟨δ', S', L', h⟩
        · rename_i δ' e
          cases h
          exact b2 H0 σ H1 δ S1 _ _ L1 e fun σ' H' S' L' => q σ' H' S' L'
        · rename_i r e1 e2 e3
          refine b2 H0 σ H1 δ S1 _ fl L1 h ?_
          cases fl with
          | next δ' => exact absurd h (e1 δ')
          | cnt δ' => exact absurd h (e2 δ')
          | brk δ' => exact absurd h (e3 δ')
          | ret o => exact q
          | exc C => exact q
    · exact c2 H0 σ H δ S _ _ L h1 (exc_ext L q)
end
end D3
namespace D3
open PySem PySem.Spec PyProof.Rows L2 L3
variable [Ecx]
section
variable {X : Cx} {E : XK} {K : PySem.W.Frag}
theorem de_ix {a b : Expr} {fa fb : List Sl → M Rz} {pos : Pos} (ha : DE X E a fa) (hb : DE X E b fb) (hs : PlainIx b := by exact (fun _ _ => rfl)) : DE X E (.Subscript a b pos) (f2 gIx fa fb) :=
  let ⟨_, a1, a2⟩ := ha; let ⟨_, b1, b2⟩ := hb; ⟨_, pe_ix ix_seq a1 b1 hs, rd2 od_ix a2 b2⟩
def negOf (x : Rz) : M Rz :=
  match x.d? with
  | some (.int i) => okM (.dat (.int (-i)))
  | _ => none
def fU (g : Rz → M Rz) (f : List Sl → M Rz) (δ : List Sl) : M Rz := bnd (f δ) g
theorem de_neg {a : Expr} {fa : List Sl → M Rz} {pos : Pos} (ha : DE X E a fa) : DE X E (.UnaryOp .USub a pos) (fU negOf fa) := by
  obtain ⟨t, a1, a2⟩ := ha
  refine ⟨_, pe_un un_neg a1, fun H0 σ H δ S Q z L h q => ?_⟩
  rcases bnd_inv h with ⟨x, h1, h⟩ | ⟨C, h1, rfl⟩
  · refine a2 H0 σ H δ S _ _ L h1 fun v H1 S1 g1 rv => ?_
    unfold negOf at h
    split at h
    · rename_i i e
      cases h
      have d := rv.full e
      cases d
      exact ⟨i, rfl, q _ H1 S1 g1 (.int _)⟩
    · cases h
  · exact a2 H0 σ H δ S _ _ L h1 q
def cutD (ds : List PyData) (lo hi : Option Int) : List PyData := (ds.drop (HT.sIx ds.length 0 lo)).take (HT.sIx ds.length ds.length hi - HT.sIx ds.length 0 lo)
theorem DVs.cut {H : Hp} {xs : List V} {ds : List PyData} (lo hi : Option Int) (h : DVs K H xs ds) : DVs K H (cutV xs lo hi) (cutD ds lo hi) := by
  unfold cutV cutD
  rw [DVs.len h]
  exact DVs.take _ (DVs.drop _ h)
def RdO (K : PySem.W.Frag) (E : XK) (t : TO) (f : List Sl → M (Option Int)) : Prop :=
  ∀ (H0 : Hp) (σ : L2.St) (H : Hp) (δ : List Sl) (S : Addr → Bool) (Q : Option Int → Hp → Prop) (r : Res (Option Int)), Loc K H0 σ H δ S → f δ = some r →
    (match r with | .ok z => ∀ H' S', Ext H S H' S' → Q z H' | .err C => ∀ H' S', Ext H S H' S' → E (.ref (ecx C)) none H') → t σ H Q
def DO (X : Cx) (E : XK) (e : Option Expr) (f : List Sl → M (Option Int)) : Prop := ∃ t, PO X e t ∧ RdO X.K E t f
def fNoP (_ : List Sl) : M (Option Int) := okM none
def partOf (x : Rz) : M (Option Int) :=
  match x.d? with
  | some (.int i) => okM (some i)
  | _ => none
def fPart (f : List Sl → M Rz) (δ : List Sl) : M (Option Int) := bnd (f δ) partOf
theorem do_none : DO X E none fNoP := ⟨_, po_none, fun H0 σ H δ S Q r L h q => by cases h; exact q H S .refl⟩
theorem do_some {e : Expr} {f : List Sl → M Rz} (h : DE X E e f) : DO X E (some e) (fPart f) := by
  obtain ⟨t, a, b⟩ := h
  refine ⟨_, po_some a, fun H0 σ H δ S Q r L h q => ?_⟩
  rcases bnd_inv h with ⟨x, h1, h⟩ | ⟨C, h1, rfl⟩
  · refine b H0 σ H δ S _ _ L h1 fun v H1 S1 g1 rv => ?_
    unfold partOf at h
    split at h
    · rename_i i e
      cases h
      have d := rv.full e
      cases d
      exact ⟨i, rfl, q H1 S1 g1⟩
    · cases h
  · exact b H0 σ H δ S _ _ L h1 q
def SlD (K : PySem.W.Frag) (E : XK) (r : V → Option Int → Option Int → Hp → VK → Prop) (g : Rz → Option Int → Option Int → M Rz) : Prop :=
  ∀ (H0 : Hp) (σ : L2.St) (H : Hp) (δ : List Sl) (S : Addr → Bool) (Hs : Hp) (v : V) (x : Rz) (lo hi : Option Int) (z : Res Rz) (Q : VK), Loc K H0 σ H δ S → RV K Hs H S v x → g x lo hi = some z → EndE K E H S Q z → r v lo hi H Q
def fSl (g : Rz → Option Int → Option Int → M Rz) (f : List Sl → M Rz) (fl fh : List Sl → M (Option Int)) (δ : List Sl) : M Rz := bnd (f δ) fun x => bnd (fl δ) fun lo => bnd (fh δ) fun hi => g x lo hi
theorem de_slice {e : Expr} {lo hi : Option Expr} {p2 pos : Pos} {r : V → Option Int → Option Int → Hp → VK → Prop} {g : Rz → Option Int → Option Int → M Rz} {f : List Sl → M Rz} {fl fh : List Sl → M (Option Int)} (hr : SlR X r) (hd : SlD X.K E r g) (he : DE X E e f) (hl : DO X E lo fl) (hh : DO X E hi fh) :
    DE X E (.Subscript e (.Slice lo hi none p2) pos) (fSl g f fl fh) := by
  obtain ⟨t, a1, a2⟩ := he
  obtain ⟨u, b1, b2⟩ := hl
  obtain ⟨w, c1, c2⟩ := hh
  refine ⟨_, pe_slice hr a1 b1 c1, fun H0 σ H δ S Q z L h q => ?_⟩
  rcases bnd_inv h with ⟨x, h1, h⟩ | ⟨C, h1, rfl⟩
  · refine a2 H0 σ H δ S _ _ L h1 fun v H1 S1 g1 rv => ?_
    rcases bnd_inv h with ⟨l, h2, h⟩ | ⟨C, h2, rfl⟩
    · refine b2 H0 σ H1 δ S1 _ _ (L.ext g1) h2 fun H2 S2 g2 => ?_
      rcases bnd_inv h with ⟨k, h3, h⟩ | ⟨C, h3, rfl⟩
      · refine c2 H0 σ H2 δ S2 _ _ ((L.ext g1).ext g2) h3 fun H3 S3 g3 => ?_
        exact hd H0 σ H3 δ S3 H v x l k z Q (((L.ext g1).ext g2).ext g3) ((rv.ext g2).ext g3) h (q.ext ((g1.trans g2).trans g3))
      · exact c2 H0 σ H2 δ S2 _ _ ((L.ext g1).ext g2) h3 fun H' S' g => q H' S' ((g1.trans g2).trans g)
    · exact b2 H0 σ H1 δ S1 _ _ (L.ext g1) h2 fun H' S' g => q H' S' (g1.trans g)
  · exact a2 H0 σ H δ S _ _ L h1 q
def gSlL (x : Rz) (lo hi : Option Int) : M Rz :=
  match x.d? with
  | some (.list ds) => if kept x ds = true then okM (.new (cutD ds lo hi)) else none
  | _ => none
theorem sd_list : SlD K E (rSlL K) gSlL := by
  intro H0 σ H δ S Hs v x lo hi z Q L rv h q
  unfold gSlL at h
  split at h
  · rename_i ds e
    split at h
    · rename_i k
      cases h
      obtain ⟨a, xs, rfl, hs, hx, hk⟩ := seq_list L rv e
      exact ⟨a, xs, rfl, hs, fun p hp => q _ _ (ins S p) (Ext.ins hp) ⟨p, _, rfl, ins_same, hp, upd_same, by rw [hid_ins hp]; exact DVs.cut lo hi (hk k)⟩⟩
    · cases h
  · cases h
def EndF (K : PySem.W.Frag) (E : XK) (H : Hp) (Q : VK) : Res Out → Prop
  | .ok o => RetOk K H Q o
  | .err C => ∀ H', Same H H' → E (.ref (ecx C)) none H'
def spD (K : PySem.W.Frag) (n : Nat) (f : List PyData → M Out) : Sp := fun vs H Q E => ∃ ds o, vs.length = n ∧ DVs K H vs ds ∧ f ds = some o ∧ EndF K E H Q o
def dsOf : List Rz → Option (List PyData)
  | [] => some []
  | x :: xs => match x.d?, dsOf xs with
    | some d, some ds => some (d :: ds)
    | _, _ => none
theorem dsOf_ok {Hs H : Hp} {S : Addr → Bool} : ∀ {vs : List V} {zs : List Rz} {ds : List PyData}, RVs K Hs H S vs zs → dsOf zs = some ds → DVs K H vs ds
  | _, _, _, .nil, h => by cases h; exact .nil
  | _, _, _, .cons r t, h => by
    unfold dsOf at h
    split at h
    · rename_i d ds e1 e2
      cases h
      exact .cons (r.full e1) (dsOf_ok t e2)
    · cases h
def outZ : Out → Rz
  | .val d => if noL d = true then .dat d else .use d
  | .fresh ds => .new ds
  | .mine d => .dat d
  | .two ds es => .dat (.tuple [.list ds, .list es])
  | .lsts ds => .use (.list ds)
  | .newls ds => .new ds
def gF (n : Nat) (f : List PyData → M Out) (zs : List Rz) : M Rz :=
  match dsOf zs with
  | some ds => if ds.length = n then bnd (f ds) fun o => okM (outZ o) else none
  | none => none
theorem cd_fn {n : Nat} {f : List PyData → M Out} : CallD K E (fun vs H Q => spD K n f (vs ++ []) H Q E) (gF n f) := by
  intro H0 σ H δ S Hs vs zs z Q L rs h q
  unfold gF at h
  split at h
  · rename_i ds e
    split at h
    · rename_i hn
      have hx := dsOf_ok rs e
      rw [List.append_nil]
      rcases bnd_inv h with ⟨o, h1, h⟩ | ⟨C, h1, rfl⟩
      · cases h
        refine ⟨ds, _, by rw [DVs.len hx]; exact hn, hx, h1, ?_⟩
        cases o with
        | val d =>
          intro v H' g dv
          have gx : Ext H S H' S := Ext.same g
          refine q v H' S gx ?_
          unfold outZ
          dsimp only
          split
          · rename_i k; exact DV.ts (L.ext gx).tk dv k
          · exact dv
        | two xs' ys' =>
          intro c a b xs ys H' g n1 n2 n3 hc ha hb dx dy kx ky
          have gx : Ext H S H' S := Ext.same g
          have off : ∀ p, H p = none → S p = false := fun p hp => by
            cases sp : S p with
            | true => obtain ⟨zs, hz⟩ := L.lst p sp; rw [hp] at hz; cases hz
            | false => rfl
          exact q _ H' S gx (.tup (SqT.of (by rw [hid_f (off c n1)]; exact hc)) (.cons (.lst (SqL.of (by rw [hid_f (off a n2)]; exact ha)) (DVs.ts (L.ext gx).tk dx kx)) (.cons (.lst (SqL.of (by rw [hid_f (off b n3)]; exact hb)) (DVs.ts (L.ext gx).tk dy ky)) .nil)))
        | lsts es =>
          intro a xs H' g n ha hx
          exact q _ H' S (Ext.same g) (DV.lst (SqL.of ha) (DVs.same wo_up hx))
        | newls es =>
          intro a xs H' g n ha hx
          have sub : Same (hid H S) (hid H' (ins S a)) := fun b o e => by
            have hb : b ≠ a := by intro z; subst z; have := hid_up _ _ e; rw [n] at this; cases this
            cases sb : S b with
            | true => rw [hid_t sb] at e; cases e
            | false => rw [hid_f sb] at e; rw [hid_f (by rw [ins_ne hb]; exact sb)]; exact g _ _ e
          have gx : Ext H S H' (ins S a) := ⟨g, sub, fun b hb => by
            unfold ins; split
            · rfl
            · exact hb, fun b hb => by
            by_cases c : b = a
            · subst c; exact .inr ⟨n, xs, ha⟩
            · rw [ins_ne c] at hb; exact .inl hb⟩
          refine q _ H' (ins S a) gx ⟨a, xs, rfl, ins_same, n, ha, DVs.same (fun b o e => ?_) hx⟩
          have hb : b ≠ a := by intro z; subst z; have := newL_up _ _ e; unfold wo at this; rw [if_pos rfl] at this; cases this
          cases sb : S b with
          | true =>
            obtain ⟨ys, hy⟩ := L.lst b sb
            unfold newL wo at e
            rw [hy] at e
            dsimp only at e
            rw [if_neg hb, g b _ hy] at e
            cases e
          | false => rw [hid_f (by rw [ins_ne hb]; exact sb)]; exact wo_up _ _ (newL_up _ _ e)
        | mine d =>
          intro v H' g dv
          refine q v H' S (Ext.same g) (DV.same (fun b o e => ?_) dv)
          cases sb : S b with
          | true =>
            obtain ⟨xs, hb⟩ := L.lst b sb
            unfold newL at e
            rw [hb] at e
            dsimp only at e
            rw [g b _ hb] at e
            cases e
          | false => rw [hid_f sb]; exact newL_up b o e
        | fresh es =>
          intro a xs H' g ha hl dv k
          have sub : Same (hid H S) (hid H' (ins S a)) := fun b o e => by
            have hb : b ≠ a := by intro z; subst z; have := hid_up _ _ e; rw [ha] at this; cases this
            cases sb : S b with
            | true => rw [hid_t sb] at e; cases e
            | false => rw [hid_f sb] at e; rw [hid_f (by rw [ins_ne hb]; exact sb)]; exact g _ _ e
          have gx : Ext H S H' (ins S a) := ⟨g, sub, fun b hb => by
            unfold ins; split
            · rfl
            · exact hb, fun b hb => by
            by_cases c : b = a
            · subst c; exact .inr ⟨ha, xs, hl⟩
            · rw [ins_ne c] at hb; exact .inl hb⟩
          exact q _ H' (ins S a) gx ⟨a, xs, rfl, ins_same, ha, hl, DVs.ts (L.ext gx).tk dv k⟩
      · refine ⟨ds, _, by rw [DVs.len hx]; exact hn, hx, h1, fun H' g => q H' S (Ext.same g)⟩
    · cases h
  · cases h
theorem de_cal {k n m : Nat} {x : Str} {ps : List Str} {f : List PyData → M Out} {p pos : Pos} {e : Expr} {es : List Expr} {fa : List Sl → M (List Rz)} (Z : Fit n X E) (C : Cal X.prog X.w X.K X.mg X.base (CXR X.prog X.w) k x ps (spD X.K m f)) (ha : DA X E (e :: es) fa) (hn : k ≤ n := by decide)
    (hg : Gl X x := by rfl) (hdb : (x == ("__debug__" : Str)) = false := by decide)
    (he : starEach (e :: es) X.env = (false, eval e X.env) :: starEach es X.env := by rfl) (hpl : (backTo pos (starEach es X.env)).any (·.1) = false := by rfl) :
    DE X E (.Call (.Name x p) (e :: es) [] pos) (fCall (gF m f) fa) :=
  let ⟨_, a, b⟩ := ha; ⟨_, pe_calX C Z.rm Z.hx a hn hg hdb he hpl, rd_call cd_fn b⟩
structure ItOk (K : PySem.W.Frag) (J : It) (Hh : Hp) (items : List PyData) : Prop where
  go : ∀ i H, Same Hh H → i < items.length → J.go i H
  yld : ∀ i H x H' d, Same Hh H → items[i]? = some d → J.yld i H x H' → H' = H ∧ DV K Hh x d
  stop : ∀ i H, Same Hh H → items.length ≤ i → J.stop i H
def RdI (K : PySem.W.Frag) (E : XK) (wi : TI) (f : List Sl → M (List PyData)) : Prop :=
  ∀ (H0 : Hp) (σ : L2.St) (H : Hp) (δ : List Sl) (S : Addr → Bool) (R : It → Hp → Prop) (r : Res (List PyData)), Loc K H0 σ H δ S → f δ = some r →
    (match r with | .ok items => ∀ J H' S', Ext H S H' S' → ItOk K J (hid H' S') items → R J H' | .err C => ∀ H' S', Ext H S H' S' → E (.ref (ecx C)) none H') → wi σ H R
def DI (X : Cx) (E : XK) (tg iter : Expr) (f : List Sl → M (List PyData)) : Prop := ∃ wi, PI X tg iter wi ∧ RdI X.K E wi f
theorem it_list {Hh : Hp} {a : Addr} {xs : List V} {ds : List PyData} (hs : SqL K Hh a xs) (hx : DVs K Hh xs ds) : ItOk K (Itl K a) Hh ds := by
  refine ⟨fun i H g hi => ?_, fun i H x H' d g e y => ?_, fun i H g hi => ⟨xs, g.seq hs, by rw [DVs.len hx]; exact hi⟩⟩
  · obtain ⟨v, e, _⟩ := DVs.get hx (List.getElem?_eq_getElem hi)
    exact ⟨xs, v, g.seq hs, e⟩
  · obtain ⟨rfl, y⟩ := y
    obtain ⟨v, e1, dv⟩ := DVs.get hx e
    have e2 := y xs (g.seq hs)
    rw [e1] at e2; cases e2
    exact ⟨rfl, dv⟩
theorem it_tup {Hh : Hp} {a : Addr} {xs : List V} {ds : List PyData} (hs : SqT K Hh a xs) (hx : DVs K Hh xs ds) : ItOk K (Itt K a) Hh ds := by
  refine ⟨fun i H g hi => ?_, fun i H x H' d g e y => ?_, fun i H g hi => ⟨xs, SameT g hs, by rw [DVs.len hx]; exact hi⟩⟩
  · obtain ⟨v, e, _⟩ := DVs.get hx (List.getElem?_eq_getElem hi)
    exact ⟨xs, v, SameT g hs, e⟩
  · obtain ⟨rfl, y⟩ := y
    obtain ⟨v, e1, dv⟩ := DVs.get hx e
    have e2 := y xs (SameT g hs)
    rw [e1] at e2; cases e2
    exact ⟨rfl, dv⟩
def itemsL (x : Rz) : M (List PyData) :=
  match x with
  | .dat (.list ds) => okM ds
  | .new ds => okM ds
  | _ => none
def itemsT (x : Rz) : M (List PyData) :=
  match x with
  | .dat (.tuple ds) => okM ds
  | .use (.tuple ds) => if noLs ds = true then okM ds else none
  | _ => none
def fI (g : Rz → M (List PyData)) (f : List Sl → M Rz) (δ : List Sl) : M (List PyData) := bnd (f δ) g
theorem di_tup {tg e : Expr} {f : List Sl → M Rz} (h : DE X E e f) : DI X E tg e (fI itemsT f) := by
  obtain ⟨t, a, b⟩ := h
  refine ⟨_, pi_tup a, fun H0 σ H δ S R r L h q => ?_⟩
  rcases bnd_inv h with ⟨x, h1, h⟩ | ⟨C, h1, rfl⟩
  · refine b H0 σ H δ S _ _ L h1 fun v H1 S1 g1 rv => ?_
    unfold itemsT at h
    split at h
    · rename_i ds
      cases h
      have rv' : DV X.K (hid H1 S1) v (.tuple ds) := rv
      cases rv' with
      | tup hs hx => exact ⟨_, rfl, ⟨_, SameT hid_up hs⟩, q _ H1 S1 g1 (it_tup hs hx)⟩
    · rename_i ds
      split at h
      · rename_i k
        cases h
        have rv' : DV X.K H1 v (.tuple ds) := rv
        cases rv' with
        | tup hs hx => exact ⟨_, rfl, ⟨_, hs⟩, q _ H1 S1 g1 (it_tup ((L.ext g1).tk.tup hs) (DVs.ts (L.ext g1).tk hx k))⟩
      · cases h
    · cases h
  · exact b H0 σ H δ S _ _ L h1 q
theorem Ext.del {H H1 : Hp} {S S1 : Addr → Bool} {a : Addr} (g : Ext H S H1 S1) (n : S a = false) : Ext H S H1 (del S1 a) :=
  ⟨g.up, g.hd.trans same_del, fun b h => by
    have : b ≠ a := by intro z; subst z; rw [h] at n; cases n
    rw [del_ne this]; exact g.sub b h, fun b h => by
    by_cases c : b = a
    · subst c; rw [del_same] at h; cases h
    · rw [del_ne c] at h; exact g.new b h⟩
theorem di_list {tg e : Expr} {f : List Sl → M Rz} (h : DE X E e f) : DI X E tg e (fI itemsL f) := by
  obtain ⟨t, a, b⟩ := h
  refine ⟨_, pi_list a, fun H0 σ H δ S R r L h q => ?_⟩
  rcases bnd_inv h with ⟨x, h1, h⟩ | ⟨C, h1, rfl⟩
  · refine b H0 σ H δ S _ _ L h1 fun v H1 S1 g1 rv => ?_
    unfold itemsL at h
    split at h
    · rename_i ds
      cases h
      have rv' : DV X.K (hid H1 S1) v (.list ds) := rv
      cases rv' with
      | lst hs hx => exact ⟨_, rfl, ⟨_, hid_up.seq hs⟩, q _ H1 S1 g1 (it_list hs hx)⟩
    · rename_i ds
      cases h
      obtain ⟨c, xs, rfl, z, n, hl, hx⟩ := rv
      have sc : S c = false := by
        cases e : S c with
        | false => rfl
        | true => obtain ⟨ys, w⟩ := L.lst c e; rw [n] at w; cases w
      exact ⟨c, rfl, ⟨xs, SqL.of hl⟩, q _ H1 (D3.del S1 c) (g1.del sc) (it_list (SqL.of (by rw [hid_f del_same]; exact hl)) (DVs.same same_del hx))⟩
    · cases h
  · exact b H0 σ H δ S _ _ L h1 q
def rangeL (lo : Int) (n : Nat) : List PyData := (List.range n).map fun (i : Nat) => PyData.int (lo + i)
theorem it_range {Hh : Hp} (lo : Int) (n : Nat) : ItOk K (Itr lo n) Hh (rangeL lo n) := by
  have hl : (rangeL lo n).length = n := by unfold rangeL; rw [List.length_map, List.length_range]
  refine ⟨fun i H g hi => by rw [hl] at hi; exact hi, fun i H x H' d g e y => ?_, fun i H g hi => by rw [hl] at hi; exact hi⟩
  obtain ⟨rfl, rfl⟩ := y
  unfold rangeL at e
  rw [List.getElem?_map] at e
  by_cases c : i < n
  · rw [List.getElem?_range c] at e; cases e; exact ⟨rfl, .int _⟩
  · rw [List.getElem?_eq_none (by rw [List.length_range]; omega)] at e; cases e
def rng1 (zs : List Rz) : M (List PyData) :=
  match dsOf zs with
  | some [.int j] => if -(2 ^ 62) ≤ j ∧ j < 2 ^ 62 then okM (rangeL 0 j.toNat) else none
  | _ => none
def rng2 (zs : List Rz) : M (List PyData) :=
  match dsOf zs with
  | some [.int i, .int j] => if -(2 ^ 62) ≤ i ∧ i < 2 ^ 62 ∧ -(2 ^ 62) ≤ j ∧ j < 2 ^ 62 then okM (rangeL i (j - i).toNat) else none
  | _ => none
def fR (g : List Rz → M (List PyData)) (f : List Sl → M (List Rz)) (δ : List Sl) : M (List PyData) := bnd (f δ) g
theorem di_range1 {tg a : Expr} {p pos : Pos} {f : List Sl → M (List Rz)} (hm : X.mg "range" = none) (ha : DA X E [a] f) (hg : Gl X "range" := by rfl) (hs : starEach [a] X.env = [(false, eval a X.env)] := by rfl) : DI X E tg (.Call (.Name "range" p) [a] [] pos) (fR rng1 f) := by
  obtain ⟨t, a1, b⟩ := ha
  refine ⟨_, pi_range1 hg hm a1 hs, fun H0 σ H δ S R r L h q => ?_⟩
  rcases bnd_inv h with ⟨zs, h1, h⟩ | ⟨C, h1, rfl⟩
  · refine b H0 σ H δ S _ _ L h1 fun vs H1 S1 g1 rs => ?_
    unfold rng1 at h
    split at h
    · rename_i j e
      split at h
      · rename_i hc
        cases h
        have hx := dsOf_ok rs e
        cases hx with
        | cons x y => cases x; cases y; exact ⟨j, rfl, hc.1, hc.2, q _ H1 S1 g1 (it_range 0 _)⟩
      · cases h
    · cases h
  · exact b H0 σ H δ S _ _ L h1 q
theorem di_range2 {tg a c : Expr} {p pos : Pos} {f : List Sl → M (List Rz)} (hm : X.mg "range" = none) (ha : DA X E [a, c] f) (hg : Gl X "range" := by rfl) (hs : starEach [a, c] X.env = [(false, eval a X.env), (false, eval c X.env)] := by rfl) (hs2 : starEach [c] X.env = [(false, eval c X.env)] := by rfl) : DI X E tg (.Call (.Name "range" p) [a, c] [] pos) (fR rng2 f) := by
  obtain ⟨t, a1, b⟩ := ha
  refine ⟨_, pi_range2 hg hm a1 hs hs2, fun H0 σ H δ S R r L h q => ?_⟩
  rcases bnd_inv h with ⟨zs, h1, h⟩ | ⟨C, h1, rfl⟩
  · refine b H0 σ H δ S _ _ L h1 fun vs H1 S1 g1 rs => ?_
    unfold rng2 at h
    split at h
    · rename_i i j e
      split at h
      · rename_i hc
        cases h
        have hx := dsOf_ok rs e
        cases hx with
        | cons x y =>
          cases x
          cases y with
          | cons x y => cases x; cases y; exact ⟨i, j, rfl, hc, q _ H1 S1 g1 (it_range i _)⟩
      · cases h
    · cases h
  · exact b H0 σ H δ S _ _ L h1 q
def forN (g : PyData → List Sl → Option (List Sl)) (b : List Sl → Option Fl) : List PyData → List Sl → Option Fl
  | [], δ => some (.next δ)
  | d :: r, δ => match g d δ with
    | none => none
    | some δ1 => (match b δ1 with
      | some (.next δ2) => forN g b r δ2
      | some (.cnt δ2) => forN g b r δ2
      | some (.brk δ2) => some (.next δ2)
      | x => x)
def fFor (fi : List Sl → M (List PyData)) (g : PyData → List Sl → Option (List Sl)) (b : List Sl → Option Fl) (δ : List Sl) : Option Fl := bS (fi δ) fun items => forN g b items δ
theorem ds_for {n : Nat} {tg iter : Expr} {body : List Stmt} {fi : List Sl → M (List PyData)} {g : PyData → List Sl → Option (List Sl)} {fb : List Sl → Option Fl} {pos : Pos} (Z : Fit n X E) (hi : DI X E tg iter fi) (hg : DG X tg g) (hb : DSs X E body fb)
    (hs : ∀ x, foldedSetIterable iter X.env x = pure x := by intro _; rfl) : DS X E (.For tg iter body [] pos) (fFor fi g fb) := by
  obtain ⟨wi, i1, i2⟩ := hi
  obtain ⟨tg', g1, g2⟩ := hg
  obtain ⟨tb, b1, b2⟩ := hb
  refine ⟨_, ps_for Z.po Z.cm i1 g1 b1 hs, fun H0 σ H δ S D fl L h q => ?_⟩
  rcases bS_inv h with ⟨items, h1, h⟩ | ⟨C, h1, rfl⟩
  · refine i2 H0 σ H δ S _ _ L h1 fun J H1 S1 e1 it => ?_
    have L1 := (L.ext e1).ground
    have base : Same H0 (hid H1 S1) := (L.ext e1).base
    refine ⟨fun i m σ H => m = items.length - i ∧ i ≤ items.length ∧ ∃ δ S, Loc X.K (hid H1 S1) σ H δ S ∧ forN g fb (items.drop i) δ = some fl, ⟨items.length, by simp, Nat.zero_le _, δ, S1, L1, h⟩, ?_⟩
    rintro i m σ2 H2 ⟨rfl, hi, δ2, S2, L2, hf⟩
    by_cases hlt : i < items.length
    · have ei : items[i]? = some items[i] := List.getElem?_eq_getElem hlt
      rw [List.drop_eq_getElem_cons hlt] at hf
      unfold forN at hf
      refine .inr ⟨it.go i H2 L2.old hlt, fun σ' H' => ∃ δ' S', Loc X.K (hid H1 S1) σ' H' δ' S' ∧ forN g fb (items.drop (i + 1)) δ' = some fl, fun σ' H' z => ⟨items.length - (i + 1), by omega, rfl, hlt, z⟩, fun x H' y => ?_⟩
      obtain ⟨rfl, dx⟩ := it.yld i H2 x H' _ L2.old ei y
      split at hf
      · cases hf
      · rename_i δ3 e3
        refine g2 _ σ2 H' δ2 δ3 S2 x _ _ L2 (DV.same L2.base dx) e3 fun σ3 L3 => ?_
        split at hf
        · rename_i δ4 e4
          exact b2 _ σ3 H' δ3 S2 _ _ L3 e4 fun σ' H' S' L' => ⟨δ4, S', L', hf⟩
        · rename_i δ4 e4
          exact b2 _ σ3 H' δ3 S2 _ _ L3 e4 fun σ' H' S' L' => ⟨δ4, S', L', hf⟩
        · rename_i δ4 e4
          cases hf
          refine b2 _ σ3 H' δ3 S2 _ _ L3 e4 fun σ' H' S' L' => ?_
          exact q σ' H' S' ⟨base.trans L'.old, fun b h => base.free (L'.frs b h), L'.lst, L'.len, L'.dat, L'.exc, L'.own, L'.one, L'.two, L'.sep, L'.sop⟩
        · rename_i r n1 n2 n3
          refine b2 _ σ3 H' δ3 S2 _ fl L3 hf ?_
          cases fl with
          | next δ' => exact absurd hf (n1 δ')
          | cnt δ' => exact absurd hf (n2 δ')
          | brk δ' => exact absurd hf (n3 δ')
          | ret o => exact RetOk.up base q
          | exc C => exact fun H' s => q H' (base.trans s)
    · have e : i = items.length := by omega
      subst e
      rw [List.drop_length] at hf
      cases hf
      exact .inl ⟨it.stop _ H2 L2.old (Nat.le_refl _), q σ2 H2 S2 ⟨base.trans L2.old, fun b h => base.free (L2.frs b h), L2.lst, L2.len, L2.dat, L2.exc, L2.own, L2.one, L2.two, L2.sep, L2.sop⟩⟩
  · exact i2 H0 σ H δ S _ _ L h1 (exc_ext L q)
end
end D3
namespace D3
open PySem PySem.Spec PyProof.Rows L2 L3
variable [Ecx]
section
variable {X : Cx} {E : XK} {K : PySem.W.Frag}
def fFrz (i : Nat) (f : List Sl → Option Fl) (δ : List Sl) : Option Fl :=
  match δ[i]? with
  | some (.own ds) => f (δ.set i (.dat (.list ds)))
  | _ => f δ
theorem ds_frz (i : Nat) {st : Stmt} {f : List Sl → Option Fl} (h : DS X E st f) : DS X E st (fFrz i f) := by
  obtain ⟨t, a, b⟩ := h
  refine ⟨t, a, fun H0 σ H δ S D fl L h q => ?_⟩
  unfold fFrz at h
  split at h
  · rename_i ds e
    obtain ⟨S', L'⟩ := L.freeze e
    exact b H0 σ H _ S' D fl L' h q
  · exact b H0 σ H δ S D fl L h q
def fMut (k : Nat) (g : List PyData → Option Fl) (δ : List Sl) : Option Fl :=
  match δ[k]? with
  | some (.own ds) => g ds
  | _ => none
theorem fMut_inv {k : Nat} {g : List PyData → Option Fl} {δ : List Sl} {r : Fl} (h : fMut k g δ = some r) : ∃ ds, δ[k]? = some (.own ds) ∧ g ds = some r := by
  unfold fMut at h
  split at h
  · rename_i ds e; exact ⟨ds, e, h⟩
  · cases h
def fApp (k : Nat) (f : List Sl → M Rz) (δ : List Sl) : Option Fl := fMut k (fun ds => bS (f δ) fun x => match datOf x with
  | some d => if ds.length < sizeLine then some (.next (δ.set k (.own (ds ++ [d])))) else none
  | none => none) δ
theorem ds_append (k : Nat) {x : Str} {e : Expr} {f : List Sl → M Rz} {npos apos cpos pos : Pos} (he : DE X E e f) (hN : X.N[k]? = some x := by rfl) (hv : Vis X.env.scope x := by first | exact Or.inl rfl | exact Or.inr (Or.inl rfl) | exact Or.inr (Or.inr rfl)) (hd : (x == ("__debug__" : Str)) = false := by decide) (hcd : (x == ("__classdict__" : Str)) = false := by decide)
    (hs : swapsWith (.Call (.Attribute (.Name x npos) "append" apos) [e] [] cpos) none pos.line X.env = pure false := by rfl)
    (hbase : attributeBase (.Name x npos) "append" X.env (eval (.Name x npos) X.env) = eval (.Name x npos) X.env := by rfl)
    (hfew : ((backTo cpos (starEach [e] X.env)).all (fun x => !x.1) && (backToKw cpos (keywordEach [] X.env)).all (fun x => x.1.isSome)
      && decide ([e].length + ([] : List Keyword).length + (if ([] : List Keyword).isEmpty then 0 else 1) < 30)) = true := by rfl)
    (hline : (apos.endLine == cpos.line) = true := by rfl) (hst : starEach [e] X.env = (false, eval e X.env) :: starEach [] X.env := by rfl) (hplain : (backTo cpos (starEach [] X.env)).any (·.1) = false := by rfl) :
    DS X E (.Expr (.Call (.Attribute (.Name x npos) "append" apos) [e] [] cpos) pos) (fApp k f) := by
  obtain ⟨t, a, b⟩ := he
  refine ⟨_, ps_expr (pe_bm PySem.F.plainAttrs_list PySem.F.slot_list_append PySem.F.type_list_append mt_append (pe_var hN hv hd hcd) (pa_cons a pa_nil hst) hbase hfew hline hst hplain) hs, fun H0 σ H δ S D fl L h q => ?_⟩
  obtain ⟨ds, e2, h⟩ := fMut_inv h
  obtain ⟨c, xs, c1, c2, c3, c4⟩ := L.own k ds e2
  refine ⟨_, c1, .inl ⟨rfl, xs, SqL.of c3⟩, ?_⟩
  rcases bS_inv h with ⟨z, h1, h⟩ | ⟨C, h1, rfl⟩
  · split at h
    · rename_i d e1
      split at h
      · rename_i hl
        cases h
        refine b H0 σ H δ S _ _ L h1 fun v H1 S1 g1 rv => ?_
        have L1 := L.ext g1
        obtain ⟨c', xs', d1, d2, d3, d4⟩ := L1.own k ds e2
        rw [c1] at d1; cases d1
        refine ⟨_, xs', v, rfl, rfl, d3, by rw [DVs.len d4]; exact hl, ?_⟩
        exact q _ _ S1 (L1.mut e2 c1 (DVs.append (.cons (datOf_ok L1 rv e1) .nil) d4))
      · cases h
    · cases h
  · exact b H0 σ H δ S _ _ L h1 (exc_ext L q)
def fPop (k : Nat) (δ : List Sl) : Option Fl := fMut k (fun ds => if ds = [] then none else some (.next (δ.set k (.own ds.dropLast)))) δ
theorem ds_pop (k : Nat) {x : Str} {npos apos cpos pos : Pos} (hN : X.N[k]? = some x := by rfl) (hv : Vis X.env.scope x := by first | exact Or.inl rfl | exact Or.inr (Or.inl rfl) | exact Or.inr (Or.inr rfl)) (hd : (x == ("__debug__" : Str)) = false := by decide) (hcd : (x == ("__classdict__" : Str)) = false := by decide)
    (hs : swapsWith (.Call (.Attribute (.Name x npos) "pop" apos) [] [] cpos) none pos.line X.env = pure false := by rfl)
    (hbase : attributeBase (.Name x npos) "pop" X.env (eval (.Name x npos) X.env) = eval (.Name x npos) X.env := by rfl) (hline : (apos.endLine == cpos.line) = true := by rfl) :
    DS X E (.Expr (.Call (.Attribute (.Name x npos) "pop" apos) [] [] cpos) pos) (fPop k) := by
  refine ⟨_, ps_expr (pe_bm0 PySem.F.plainAttrs_list PySem.F.slot_list_pop PySem.F.type_list_pop mt_pop (pe_var hN hv hd hcd) hbase hline) hs, fun H0 σ H δ S D fl L h q => ?_⟩
  obtain ⟨ds, e2, h⟩ := fMut_inv h
  obtain ⟨c, xs, c1, c2, c3, c4⟩ := L.own k ds e2
  split at h
  · cases h
  · rename_i hne
    cases h
    have hl := DVs.len c4
    have hpos : 0 < xs.length := by rw [hl]; exact List.length_pos_iff.mpr hne
    refine ⟨_, c1, .inl ⟨rfl, xs, SqL.of c3⟩, c, xs, xs[xs.length - 1], rfl, rfl, c3, List.getElem?_eq_getElem _, ?_⟩
    exact q _ _ S (L.mut e2 c1 (DVs.dropLast c4))
def fPut (k : Nat) (f fi : List Sl → M Rz) (δ : List Sl) : Option Fl := bS (f δ) fun x => fMut k (fun ds => bS (fi δ) fun y => match datOf x, y.d? with
  | some d, some (.int i) => (match ixN ds.length i with | some j => some (.next (δ.set k (.own (ds.set j d)))) | none => none)
  | _, _ => none) δ
theorem ds_put (k : Nat) {x : Str} {e i : Expr} {f fi : List Sl → M Rz} {npos spos pos : Pos} (he : DE X E e f) (hi : DE X E i fi) (hN : X.N[k]? = some x := by rfl) (hv : Vis X.env.scope x := by first | exact Or.inl rfl | exact Or.inr (Or.inl rfl) | exact Or.inr (Or.inr rfl)) (hd : (x == ("__debug__" : Str)) = false := by decide) (hcd : (x == ("__classdict__" : Str)) = false := by decide)
    (ha : ∀ v, assign (.Subscript (.Name x npos) i spos) X.env v = (do
      let ov ← holding [v] (eval (.Name x npos) X.env)
      let iv ← holding [v, ov] (eval i X.env)
      standAt spos
      holding [v, ov, iv] (setItem ov iv v)
      release [v, ov, iv] []) := by intro _; rfl)
    (hs : swapsWithSole [.Subscript (.Name x npos) i spos] e pos.line X.env = pure false := by rfl) (hw : swappedStores [.Subscript (.Name x npos) i spos] e X.env = pure none := by rfl)
    (h1 : (assignEach [.Subscript (.Name x npos) i spos] X.env).map (·.2) = [assign (.Subscript (.Name x npos) i spos) X.env] := by rfl) :
    DS X E (.Assign [.Subscript (.Name x npos) i spos] e pos) (fPut k f fi) := by
  obtain ⟨t, a, b⟩ := he
  obtain ⟨u, c, dd⟩ := hi
  refine ⟨_, ps_asg a (pg_sub (pe_var hN hv hd hcd) c set_list ha) hs hw h1, fun H0 σ H δ S D fl L h q => ?_⟩
  rcases bS_inv h with ⟨z, h1, h⟩ | ⟨C, h1, rfl⟩
  · refine b H0 σ H δ S _ _ L h1 fun v H1 S1 g1 rv => ?_
    have L1 := L.ext g1
    obtain ⟨ds, e2, h⟩ := fMut_inv h
    obtain ⟨c, xs, c1, c2, c3, c4⟩ := L1.own k ds e2
    refine ⟨_, c1, ?_⟩
    rcases bS_inv h with ⟨y, h2, h⟩ | ⟨C, h2, rfl⟩
    · refine dd H0 σ H1 δ S1 _ _ L1 h2 fun w H2 S2 g2 rw' => ?_
      have L2 := L1.ext g2
      split at h
      · rename_i d ii e3 e4
        split at h
        · rename_i j e5
          cases h
          have dw := rw'.full e4
          cases dw
          obtain ⟨c', xs', d1, d2, d3, d4⟩ := L2.own k ds e2
          rw [c1] at d1; cases d1
          refine ⟨_, xs', ii, j, rfl, rfl, d3, by rw [DVs.len d4]; exact e5, ?_⟩
          exact q _ _ S2 (L2.mut e2 c1 (DVs.set (datOf_ok L2 (rv.ext g2) e3) j d4))
        · cases h
      · cases h
    · exact dd H0 σ H1 δ S1 _ _ L1 h2 (exc_ext L1 q)
  · exact b H0 σ H δ S _ _ L h1 (exc_ext L q)
inductive Tg where
  | non | bl | int | str | lst | tup
  | exc (n : Ex)
  deriving DecidableEq
def tgD : PyData → Option Tg
  | .none => some .non
  | .bool _ => some .bl
  | .int _ => some .int
  | .str _ => some .str
  | .list _ => some .lst
  | .tuple _ => some .tup
  | .dict _ => none
def tgOf (x : Rz) : Option Tg :=
  match x with
  | .exc n => if isFn n = true then none else some (.exc n)
  | .dat d => tgD d
  | .use d => tgD d
  | .new _ => some .lst
  | .var _ => some .lst
def tgV : Tg → Value
  | .non => .type "NoneType"
  | .bl => .type "bool"
  | .int => .type "int"
  | .str => .type "str"
  | .lst => .type "list"
  | .tup => .type "tuple"
  | .exc n => .ref (ecx n)
theorem ty_data {H : Hp} {v : V} {d : PyData} {tg : Tg} (h : DV K H v d) (e : tgD d = some tg) : TyX K H v (tgV tg) := by
  cases h with
  | non => cases e; exact .non
  | bl b => cases e; exact .bl b
  | int i => cases e; exact .int i
  | str x => cases e; exact .str x
  | tup a b => cases e; exact .tup a
  | lst a b => cases e; exact .lst a
theorem ty_ok {Hs H : Hp} {S : Addr → Bool} {v : V} {x : Rz} {tg : Tg} (r : RV K Hs H S v x) (e : tgOf x = some tg) (xk : ∀ n, tg = .exc n → ExcK K (ecx n)) : TyE K H v (tgV tg) := by
  cases x with
  | exc n =>
    unfold tgOf at e
    dsimp only at e
    split at e
    · cases e
    · rename_i nf
      cases e
      obtain ⟨ea, rfl, z⟩ := r
      exact .exc (xk n rfl) (hid_up _ _ (z.real (by simpa using nf)))
  | dat d => exact .of (ty_data (DV.same hid_up r) e)
  | use d => exact .of (ty_data r e)
  | new ds => cases e; exact .of (ty_data (RV.full r rfl) rfl)
  | var ds => cases e; exact .of (ty_data (RV.full r rfl) rfl)
def gIsi (ans : Tg → Option Bool) (x : Rz) : M Rz :=
  match tgOf x with
  | some tg => (match ans tg with | some b => okM (.dat (.bool b)) | none => none)
  | none => none
theorem gIsi_inv {ans : Tg → Option Bool} {x : Rz} {z : Res Rz} (h : gIsi ans x = some z) : ∃ tg b, tgOf x = some tg ∧ ans tg = some b ∧ z = .ok (.dat (.bool b)) := by
  unfold gIsi at h
  split at h
  · rename_i tg e
    split at h
    · rename_i b e2; cases h; exact ⟨tg, b, e, e2, rfl⟩
    · cases h
  · cases h
structure IsK (K : PySem.W.Frag) (cv : V) (ans : Tg → Option Bool) : Prop where
  cls : isCls cv = true
  kit : ∀ tg b, ans tg = some b → PySem.W.kitOne K (tgV tg) (vOf cv) = some b
  exc : ∀ n b, ans (.exc n) = some b → ExcK K (ecx n)
structure IsKs (K : PySem.W.Frag) (cs : List V) (ans : Tg → Option Bool) : Prop where
  cls : ∀ c ∈ cs, isCls c = true
  kit : ∀ tg b, ans tg = some b → PySem.W.kitAny K (tgV tg) (cs.map vOf) = some b
  exc : ∀ n b, ans (.exc n) = some b → ExcK K (ecx n)
theorem de_isi {a c : Expr} {cv : V} {ans : Tg → Option Bool} {f : List Sl → M Rz} {p pos : Pos} (hm : X.mg "isinstance" = none) (hk : IsK X.K cv ans) (ha : DE X E a f) (hc : PE X c (tC cv))
    (hg : Gl X "isinstance" := by rfl) (hs : starEach [a, c] X.env = (false, eval a X.env) :: starEach [c] X.env := by rfl) (hs2 : starEach [c] X.env = (false, eval c X.env) :: starEach [] X.env := by rfl) (hpl : (backTo pos (starEach [c] X.env)).any (·.1) = false := by rfl) :
    DE X E (.Call (.Name "isinstance" p) [a, c] [] pos) (fU (gIsi ans) f) := by
  obtain ⟨t, a1, a2⟩ := ha
  refine ⟨_, pe_callB call_isE hg hm PyProof.Rows.boot_isinstance (pa_cons a1 (pa_cons hc pa_nil hs2) hs) (by decide) (by decide) hs hpl, fun H0 σ H δ S Q z L h q => ?_⟩
  rcases bnd_inv h with ⟨x, h1, h⟩ | ⟨C, h1, rfl⟩
  · refine a2 H0 σ H δ S _ _ L h1 fun v H1 S1 g1 rv => ?_
    obtain ⟨tg, b, e1, e2, rfl⟩ := gIsi_inv h
    exact ⟨v, cv, tgV tg, b, rfl, ty_ok rv e1 (fun n e => by subst e; exact hk.exc n b e2), hk.cls, hk.kit tg b e2, q _ H1 S1 g1 (.bl b)⟩
  · exact a2 H0 σ H δ S _ _ L h1 q
def tCs : List V → TA
  | [] => tNil
  | c :: cs => tCons (tC c) (tCs cs)
theorem tCs_ok {σ : L2.St} {H : Hp} : ∀ {cs : List V} {Q : List V → Hp → Prop}, Q cs H → tCs cs σ H Q
  | [], _, q => q
  | c :: cs, Q, q => tCs_ok (cs := cs) (Q := fun xs H2 => Q (c :: xs) H2) q
theorem de_isT {a : Expr} {ces : List Expr} {cs : List V} {ans : Tg → Option Bool} {f : List Sl → M Rz} {p tp pos : Pos} {x1} (hm : X.mg "isinstance" = none) (hk : IsKs X.K cs ans) (hl : cs.length ≤ sizeLine) (ha : DE X E a f) (hc : PA X ces (tCs cs))
    (hg : Gl X "isinstance" := by rfl) (hs : starEach [a, .Tuple ces x1 tp] X.env = (false, eval a X.env) :: starEach [.Tuple ces x1 tp] X.env := by rfl) (hs2 : starEach [.Tuple ces x1 tp] X.env = (false, eval (.Tuple ces x1 tp) X.env) :: starEach [] X.env := by rfl) (hpl : (backTo pos (starEach [.Tuple ces x1 tp] X.env)).any (·.1) = false := by rfl) :
    DE X E (.Call (.Name "isinstance" p) [a, .Tuple ces x1 tp] [] pos) (fU (gIsi ans) f) := by
  obtain ⟨t, a1, a2⟩ := ha
  refine ⟨_, pe_callB call_isT hg hm PyProof.Rows.boot_isinstance (pa_cons a1 (pa_cons (pe_tup hc) pa_nil hs2) hs) (by decide) (by decide) hs hpl, fun H0 σ H δ S Q z L h q => ?_⟩
  rcases bnd_inv h with ⟨x, h1, h⟩ | ⟨C, h1, rfl⟩
  · refine a2 H0 σ H δ S _ _ L h1 fun v H1 S1 g1 rv => ?_
    obtain ⟨tg, b, e1, e2, rfl⟩ := gIsi_inv h
    refine tCs_ok ⟨hl, fun p hp => ?_⟩
    have g2 : Ext H1 S1 (upd H1 p (.tup cs)) S1 := Ext.same (same_new hp _)
    exact ⟨v, p, cs, tgV tg, b, rfl, upd_same, ty_ok (rv.ext g2) e1 (fun n e => by subst e; exact hk.exc n b e2), hk.cls, hk.kit tg b e2, q _ _ S1 (g1.trans g2) (.bl b)⟩
  · exact a2 H0 σ H δ S _ _ L h1 q
def fnD (n m : Nat) (f : List Sl → Option Fl) (ds : List PyData) : M Out :=
  if ds.length = n then (match f (ds.map Sl.dat ++ List.replicate m Sl.no) with
    | some (.ret o) => some (.ok o)
    | some (.next _) => some (.ok (.val .none))
    | some (.exc C) => some (.err C)
    | _ => none) else none
theorem loc_start {H : Hp} {vs : List V} {ds : List PyData} {N : List Str} {m : Nat} (h : DVs K H vs ds) (hm : N.length - vs.length = m) : Loc K H (L2.start N vs) H (ds.map Sl.dat ++ List.replicate m Sl.no) (fun _ => false) := by
  have hh : hid H (fun _ => false) = H := by funext b; exact hid_f rfl
  have hl := DVs.len h
  have at_ : ∀ (i : Nat) (s : Sl), (ds.map Sl.dat ++ List.replicate m Sl.no)[i]? = some s → (∃ d, ds[i]? = some d ∧ s = .dat d) ∨ s = .no := fun i s e => by
    by_cases c : i < ds.length
    · rw [List.getElem?_append_left (by rw [List.length_map]; exact c), List.getElem?_map, List.getElem?_eq_getElem c] at e
      cases e
      exact .inl ⟨_, List.getElem?_eq_getElem c, rfl⟩
    · rw [List.getElem?_append_right (by rw [List.length_map]; omega), List.getElem?_replicate] at e
      split at e
      · cases e; exact .inr rfl
      · cases e
  refine ⟨Same.refl _, (fun b h => nomatch h), (fun b h => nomatch h), ?_, fun i d e => ?_, fun i C e => ?_, fun i es e => ?_, fun i j d1 d2 a e1 => ?_, fun i o e => ?_, fun i j ds' a kd => ?_, fun i j a kd => ?_⟩
  · unfold L2.start
    rw [List.length_append, List.length_append, List.length_map, List.length_map, List.length_replicate, List.length_replicate, hl, ← hm, hl]
  · rcases at_ i _ e with ⟨d', e1, e2⟩ | e2
    · cases e2
      obtain ⟨v, e3, dv⟩ := DVs.get h e1
      refine ⟨v, ?_, by rw [hh]; exact dv⟩
      unfold L2.start
      have : i < vs.length := (List.getElem?_eq_some_iff.mp e3).1
      rw [List.getElem?_append_left (by rw [List.length_map]; exact this), List.getElem?_map, e3]
      rfl
    · cases e2
  · rcases at_ i _ e with ⟨d', e1, e2⟩ | e2 <;> cases e2
  · rcases at_ i _ e with ⟨d', e1, e2⟩ | e2 <;> cases e2
  · rcases at_ i _ e1 with ⟨d', e1, e2⟩ | e2 <;> cases e2
  · rcases at_ i _ e with ⟨d', e1, e2⟩ | e2 <;> cases e2
  · obtain ⟨o, c, x, y, e, _⟩ := kd
    rcases at_ i _ e with ⟨d', e1, e2⟩ | e2 <;> cases e2
  · obtain ⟨o, c, x, y, e, _⟩ := kd
    rcases at_ i _ e with ⟨d', e1, e2⟩ | e2 <;> cases e2
end
theorem fn_ok {P : Program} {w : World} {K : PySem.W.Frag} {mg : Str → Option Value} {base : Heap} {x : Str} {st : Stmt} {f : Addr} {fd : FuncData} {N ps : List Str} {k : Nat} (n m : Nat) (body : List Sl → Option Fl) (F : Fun K x x st f fd) (S : FnScope N ps (defScope st)) (hn : ps.length = n) (hm : N.length - ps.length = m)
    (hb : ∀ (cdv : Value) (A : Around) (outer : List Env) (s : Shared) (H : Hp) (E : XK), Fit k (cxOf (CXR P w) P w K mg base N x (defScope st) f cdv A outer s H E) E → DSs (cxOf (CXR P w) P w K mg base N x (defScope st) f cdv A outer s H E) E (defBody st) body) :
    FnOk P w K mg base (CXR P w) (k + 1) f fd ps (spD K n (fnD n m body)) := by
  subst hn hm
  refine okX F S (fun vs H Q E h => ?_) (fun cdv A outer s H vs Q E hr h => ?_)
  · obtain ⟨_, _, h, _⟩ := h; exact h
  · obtain ⟨ds, o, hl, dv, e, q⟩ := h
    obtain ⟨t, a, b⟩ := hb cdv A outer s H E ⟨passes_def, raises_def, PassesOwn.leaving, rfl, hr, S.nd⟩
    refine ⟨t, a, ?_⟩
    unfold fnD at e
    have hl2 : ds.length = ps.length := by rw [← DVs.len dv]; exact hl
    rw [if_pos hl2] at e
    have L := loc_start (N := N) (m := N.length - ps.length) dv (by rw [hl])
    split at e
    · rename_i o' e1
      cases e
      exact b H _ H _ _ _ _ L e1 q
    · rename_i δ e1
      cases e
      exact b H _ H _ _ _ _ L e1 fun σ' H' S' L' => q .non H' L'.old .non
    · rename_i C e1
      cases e
      exact b H _ H _ _ _ _ L e1 q
    · cases e
end D3
namespace D3
open PySem PySem.Spec PyProof.Rows L2 L3
variable [Ecx]
def tD (K : PySem.W.Frag) (E : XK) (f : List Sl → M Rz) : TE := fun σ H Q => ∃ H0 δ S r, Loc K H0 σ H δ S ∧ f δ = some r ∧ EndE K E H S Q r
theorem DE.pe {X : Cx} {E : XK} {e : Expr} {f : List Sl → M Rz} (h : DE X E e f) : PE X e (tD X.K E f) := by
  obtain ⟨t, a, b⟩ := h
  intro pins s σ H Q I q
  obtain ⟨H0, δ, S, r, L, e, q⟩ := q
  exact a pins s σ H Q I (b H0 σ H δ S Q r L e q)
def tDT (K : PySem.W.Frag) (E : XK) (f : List Sl → M Bool) : TT := fun σ H Q => ∃ H0 δ S r, Loc K H0 σ H δ S ∧ f δ = some r ∧ EndT E H S Q r
theorem DT.pt {X : Cx} {E : XK} {e : Expr} {f : List Sl → M Bool} (h : DT X E e f) : PT X e (tDT X.K E f) := by
  obtain ⟨t, a, b⟩ := h
  intro pins s σ H Q I q
  obtain ⟨H0, δ, S, r, L, e, q⟩ := q
  exact a pins s σ H Q I (b H0 σ H δ S Q r L e q)
def tDS (K : PySem.W.Frag) (E : XK) (f : List Sl → Option Fl) : TS := fun D σ H => ∃ H0 δ S r, Loc K H0 σ H δ S ∧ f δ = some r ∧ EndS K E H0 D r
theorem DSs.ps {X : Cx} {E : XK} {e : List Stmt} {f : List Sl → Option Fl} (h : DSs X E e f) : PSs X e (tDS X.K E f) := by
  obtain ⟨t, a, b⟩ := h
  intro pins s σ H D I q
  obtain ⟨H0, δ, S, r, L, e, q⟩ := q
  exact a pins s σ H D I (b H0 σ H δ S D r L e q)
theorem closure_ex {env : Env} : ∀ (names : List (Str × NameKind)) (acc : List (Str × Addr)), (∀ p ∈ names, p.2 = .free → ∃ c, env.cells.lookup p.1 = some c) →
    ∃ cl : List (Str × Addr), (forIn names acc (fun (x : Str × NameKind) (r : List (Str × Addr)) => (match x with | (name, kind) => if (kind == NameKind.free) = true then (do let a ← cellOf env name; pure (ForInStep.yield ((name, a) :: r))) else pure (ForInStep.yield r)) : Str × NameKind → List (Str × Addr) → Sem (ForInStep (List (Str × Addr))))) = (pure cl : Sem (List (Str × Addr)))
      ∧ (∀ p ∈ cl, p ∈ acc ∨ env.cells.lookup p.1 = some p.2) ∧ (∀ p ∈ names, p.2 = .free → ∃ c, (p.1, c) ∈ cl) ∧ (∀ p ∈ acc, p ∈ cl)
  | [], acc, _ => ⟨acc, rfl, (fun p h => .inl h), (fun p h => nomatch h), (fun p h => h)⟩
  | (n, k) :: r, acc, h => by
    by_cases c : k = .free
    · subst c
      obtain ⟨a, ea⟩ := h (n, .free) (.head _) rfl
      obtain ⟨cl, e, h1, h2, h3⟩ := closure_ex r ((n, a) :: acc) fun p hp => h p (.tail _ hp)
      refine ⟨cl, ?_, fun p hp => ?_, fun p hp hf => ?_, fun p hp => h3 p (.tail _ hp)⟩
      · rw [List.forIn_cons]
        dsimp only
        rw [if_pos (by rfl)]
        unfold cellOf
        have ea' : env.cells.lookup n = some a := ea
        rw [ea']
        exact e
      · rcases h1 p hp with q | q
        · rcases List.mem_cons.mp q with q | q
          · subst q; exact .inr ea
          · exact .inl q
        · exact .inr q
      · rcases List.mem_cons.mp hp with q | q
        · subst q; exact ⟨a, h3 _ (.head _)⟩
        · exact h2 p q hf
    · obtain ⟨cl, e, h1, h2, h3⟩ := closure_ex r acc fun p hp => h p (.tail _ hp)
      refine ⟨cl, ?_, h1, fun p hp hf => ?_, h3⟩
      · rw [List.forIn_cons]
        dsimp only
        rw [if_neg (by intro z; exact c (beq_iff_eq.mp z))]
        exact e
      · rcases List.mem_cons.mp hp with q | q
        · subst q; exact absurd hf c
        · exact h2 p q hf
def compChk (N : List Str) (x : Str) (sc dsc : Scope) : Bool :=
  decide (sc.kind = .function) && decide (dsc.kind = .function) && sc.names.all (fun p => match p.2 with
    | .cell => false
    | .free => decide (dsc.names.lookup p.1 = some .cell)
    | .local => decide (sc.names.lookup p.1 = some .local)
    | _ => true) && decide (sc.names.lookup x = some .local) && !N.contains x &&
  N.all (fun y => match sc.names.lookup y with
    | some .local => false
    | some .cell => false
    | some .free => decide (dsc.names.lookup y = some .cell)
    | _ => true)
theorem lookup_relabel {env : Env} : ∀ {names : List (Str × NameKind)} {x : Str} {k : NameKind}, (names.map fun (n, k) => if (k == NameKind.free && env.scope.kind == .function && env.kindOf n == some .cell) then (n, NameKind.cell) else (n, k)).lookup x = some k →
    ∃ k', names.lookup x = some k' ∧ (k = k' ∨ (k' = .free ∧ k = .cell))
  | [], _, _, h => by simp at h
  | (n, k0) :: r, x, k, h => by
    have ih := @lookup_relabel env r x k
    have h' : List.lookup x ((if (k0 == NameKind.free && env.scope.kind == .function && env.kindOf n == some .cell) = true then (n, NameKind.cell) else (n, k0)) :: _) = some k := h
    by_cases e : x = n
    · subst e
      refine ⟨k0, by simp [List.lookup], ?_⟩
      split at h'
      · rename_i c
        simp only [List.lookup, beq_self_eq_true] at h'
        cases h'
        simp only [Bool.and_eq_true, beq_iff_eq] at c
        exact .inr ⟨c.1.1, rfl⟩
      · simp only [List.lookup, beq_self_eq_true] at h'
        cases h'
        exact .inl rfl
    · have ne : (x == n) = false := by simp [e]
      have h2 : List.lookup x (r.map fun (n, k) => if (k == NameKind.free && env.scope.kind == .function && env.kindOf n == some .cell) then (n, NameKind.cell) else (n, k)) = some k := by
        split at h' <;> simpa [List.lookup, ne] using h'
      obtain ⟨k', h3, h4⟩ := ih h2
      exact ⟨k', by simpa [List.lookup, ne] using h3, h4⟩
theorem comp_ok {X : Cx} {x : Str} {sc : Scope} (hcell : ∀ y, X.env.scope.names.lookup y = some .cell → ∃ c, X.env.cells.lookup y = some c) (h : compChk X.N x sc X.env.scope = true) : ∃ cl, CompOk X x sc cl := by
  unfold compChk at h
  simp only [Bool.and_eq_true, decide_eq_true_eq, List.all_eq_true, Bool.not_eq_true'] at h
  obtain ⟨⟨⟨⟨⟨h1, h2⟩, h3⟩, h4⟩, h5⟩, h6⟩ := h
  have fr : ∀ p ∈ sc.names, p.2 = .free → X.env.scope.names.lookup p.1 = some .cell := fun p hp e => by
    have := h3 p hp
    rw [e] at this
    simpa using this
  obtain ⟨cl, e, c1, c2, c3⟩ := closure_ex (env := X.env) sc.names [] fun p hp hf => hcell _ (fr p hp hf)
  have inC : ∀ y c, cl.lookup y = some c → X.env.cells.lookup y = some c := fun y c hl => by
    rcases c1 _ (PySem.mem_of_lookup hl) with q | q
    · exact nomatch q
    · exact q
  refine ⟨cl, ⟨?_, inC, fun y hy => ?_, fun p hp e => ?_, h1, fun p hp e => ?_, h4, fun y hy hv => ?_, ?_⟩⟩
  · unfold closureFor
    dsimp only
    rw [e]; rfl
  · have key : ∀ k, (relabel sc X.env).names.lookup y = some k → k = .cell ∨ k = .free → ∃ c, cl.lookup y = some c := fun k hk hkk => by
      obtain ⟨k', e1, e2⟩ := lookup_relabel hk
      have kf : k' = .free := by
        rcases e2 with e2 | e2
        · subst e2
          rcases hkk with z | z
          · subst z
            have := h3 _ (PySem.mem_of_lookup e1)
            simp at this
          · exact z
        · exact e2.1
      subst kf
      obtain ⟨c, hc⟩ := c2 _ (PySem.mem_of_lookup e1) rfl
      have : (cl.lookup y).isSome = true := by
        clear e inC c1 c2 c3 hk e1 e2
        induction cl with
        | nil => exact nomatch hc
        | cons p r ih =>
          simp only [List.lookup]
          by_cases z : y == p.1
          · rw [z]; rfl
          · rw [Bool.not_eq_true] at z
            rw [z]
            rcases List.mem_cons.mp hc with q | q
            · subst q; simp at z
            · exact ih q
      exact Option.isSome_iff_exists.mp this
    rcases hy with hy | hy
    · exact key _ hy (.inl rfl)
    · exact key _ hy (.inr rfl)
  · have := h3 p hp
    rw [e] at this
    simp at this
  · have := h3 p hp
    rw [e] at this
    simpa using this
  · have q6 := h6 y hy
    have pick : ∃ k, (relabel sc X.env).names.lookup y = some k ∧ (k = .local ∨ k = .cell ∨ k = .free) := by
      rcases hv with z | z | z
      · exact ⟨_, z, .inl rfl⟩
      · exact ⟨_, z, .inr (.inl rfl)⟩
      · exact ⟨_, z, .inr (.inr rfl)⟩
    obtain ⟨k, hk, hkk⟩ := pick
    obtain ⟨k', e1, e2⟩ := lookup_relabel hk
    rw [e1] at q6
    have kf : k' = .free := by
      cases k' with
      | «local» => simp at q6
      | cell => simp at q6
      | free => rfl
      | globalExplicit => rcases e2 with z | z <;> rcases hkk with w | w | w <;> simp_all
      | globalImplicit => rcases e2 with z | z <;> rcases hkk with w | w | w <;> simp_all
    subst kf
    have dc : X.env.scope.names.lookup y = some .cell := by simpa using q6
    refine ⟨?_, .inl dc⟩
    rcases e2 with z | z
    · subst z; exact .inr hk
    · rw [z.2] at hk; exact .inl hk
  · intro hm
    have : X.N.contains x = true := List.contains_iff_mem.mpr hm
    rw [this] at h5; cases h5
structure ItC (K : PySem.W.Frag) (J : It) (Hf Hh : Hp) (items : List PyData) : Prop where
  go : ∀ i H, Same Hf H → i < items.length → J.go i H
  yld : ∀ i H x H' d, Same Hf H → items[i]? = some d → J.yld i H x H' → H' = H ∧ DV K Hh x d
  stop : ∀ i H, Same Hf H → items.length ≤ i → J.stop i H
def RdIc (K : PySem.W.Frag) (E : XK) (wi : TI) (f : List Sl → M (List PyData)) : Prop :=
  ∀ (H0 : Hp) (σ : L2.St) (H : Hp) (δ : List Sl) (S : Addr → Bool) (R : It → Hp → Prop) (r : Res (List PyData)), Loc K H0 σ H δ S → f δ = some r →
    (match r with | .ok items => ∀ J H' S', Ext H S H' S' → ItC K J H' (hid H' S') items → R J H' | .err C => ∀ H' S', Ext H S H' S' → E (.ref (ecx C)) none H') → wi σ H R
def DIc (X : Cx) (E : XK) (tg iter : Expr) (f : List Sl → M (List PyData)) : Prop := ∃ wi, PI X tg iter wi ∧ RdIc X.K E wi f
theorem DI.c {X : Cx} {E : XK} {tg iter : Expr} {f : List Sl → M (List PyData)} (h : DI X E tg iter f) : DIc X E tg iter f := by
  obtain ⟨wi, a, b⟩ := h
  refine ⟨wi, a, fun H0 σ H δ S R r L e q => b H0 σ H δ S R r L e ?_⟩
  cases r with
  | ok items => exact fun J H' S' g it => q J H' S' g ⟨fun i H s => it.go i H (hid_up.trans s), fun i H x H1 d s e y => it.yld i H x H1 d (hid_up.trans s) e y, fun i H s => it.stop i H (hid_up.trans s)⟩
  | err C => exact q
section
variable {X : Cx} {E : XK} {K : PySem.W.Frag}
theorem Kid.uncons {G : Hp} {σ : L2.St} {δ : List Sl} {v : Option V} {d : PyData} {i : Nat} {a : Addr} (k : Kid G (v :: σ) (.dat d :: δ) i a) : ∃ i', i = i' + 1 ∧ Kid G σ δ i' a := by
  obtain ⟨o, c, x, y, e1, e2, e3⟩ := k
  cases i with
  | zero => cases e1
  | succ i => exact ⟨i, rfl, o, c, x, y, by simpa using e1, by simpa using e2, e3⟩
theorem Loc.cons {H0 H : Hp} {σ : L2.St} {δ : List Sl} {S : Addr → Bool} {v : V} {d : PyData} (L : Loc K H0 σ H δ S) (h : DV K (hid H S) v d) : Loc K H0 (some v :: σ) H (.dat d :: δ) S := by
  refine ⟨L.old, L.frs, L.lst, by rw [List.length_cons, List.length_cons, L.len], fun i d' e => ?_, fun i C e => ?_, fun i es e => ?_, fun i j d1 d2 a e1 e2 e3 e4 => ?_, fun i o e => ?_, fun i j ds a kd e => ?_, fun i j a kd kd' => ?_⟩
  · cases i with
    | zero => cases e; exact ⟨v, rfl, h⟩
    | succ i => exact L.dat i d' (by simpa using e)
  · cases i with
    | zero => cases e
    | succ i => exact L.exc i C (by simpa using e)
  · cases i with
    | zero => cases e
    | succ i => exact L.own i es (by simpa using e)
  · cases i with
    | zero => cases e1
    | succ i =>
      cases j with
      | zero => cases e2
      | succ j => rw [L.one i j d1 d2 a (by simpa using e1) (by simpa using e2) (by simpa using e3) (by simpa using e4)]
  · cases i with
    | zero => cases e
    | succ i => exact L.two i o (by simpa using e)
  · obtain ⟨i', rfl, kd⟩ := kd.uncons
    cases j with
    | zero => cases e
    | succ j => exact L.sep i' j ds a kd (by simpa using e)
  · obtain ⟨i', rfl, kd⟩ := kd.uncons
    obtain ⟨j', rfl, kd'⟩ := kd'.uncons
    rw [L.sop i' j' a kd kd']
theorem Loc.mutX {H0 H : Hp} {σ : L2.St} {δ : List Sl} {S : Addr → Bool} {a : Addr} {xs : List V} (L : Loc K H0 σ H δ S) (hS : S a = true) (hn : ∀ (j : Nat) (es : List PyData), δ[j]? = some (Sl.own es) → σ[j]? ≠ some (some (V.ref a))) (hk : ∀ j, ¬ Kid (hid H S) σ δ j a) : Loc K H0 σ (upd H a (.lst xs)) δ S := by
  have hh := hid_mut (H := H) (o := .lst xs) hS
  refine ⟨fun b o h => ?_, L.frs, fun b h => ?_, L.len, by rw [hh]; exact L.dat, by rw [hh]; exact L.exc, fun j es e => ?_, L.one, fun j o e => ?_, by rw [hh]; exact L.sep, by rw [hh]; exact L.sop⟩
  · have : b ≠ a := by intro z; subst z; rw [L.frs b hS] at h; cases h
    rw [upd_ne this]; exact L.old b o h
  · by_cases c : b = a
    · subst c; exact ⟨xs, upd_same⟩
    · rw [upd_ne c]; exact L.lst b h
  · rw [hh]
    obtain ⟨b, ys, q1, q2, q3, q4⟩ := L.own j es e
    have : b ≠ a := by intro z; subst z; exact hn j es e q1
    exact ⟨b, ys, q1, q2, by rw [upd_ne this]; exact q3, q4⟩
  · rw [hh]
    obtain ⟨c, x, y, xs', ys, q1, q2, q3, q4, q5, q6, q7⟩ := L.two j o e
    obtain ⟨k1, k2⟩ := Kid.mk' (G := hid H S) e q1 q2
    have n1 : x ≠ a := fun z => hk j (z ▸ k1)
    have n2 : y ≠ a := fun z => hk j (z ▸ k2)
    exact ⟨c, x, y, xs', ys, q1, q2, q3, q4, by rw [upd_ne n1]; exact q5, by rw [upd_ne n2]; exact q6, q7⟩
def lcN (ft : List Sl → M Bool) (fe : List Sl → M Rz) (δ : List Sl) : List PyData → Option (List PyData)
  | [] => some []
  | d :: r => match ft (.dat d :: δ) with
    | some (.ok true) => (match fe (.dat d :: δ) with
      | some (.ok z) => (match datOf z, lcN ft fe δ r with
        | some e, some es => some (e :: es)
        | _, _ => none)
      | _ => none)
    | some (.ok false) => lcN ft fe δ r
    | _ => none
def fLC (fi : List Sl → M (List PyData)) (ft : List Sl → M Bool) (fe : List Sl → M Rz) (δ : List Sl) : M Rz := bnd (fi δ) fun items => if items.length < sizeLine then (match lcN ft fe δ items with | some ds => okM (.new ds) | none => none) else none
def DIfs (X : Cx) (ifs : List Expr) (f : List Sl → M Bool) : Prop := PIfs X ifs (tDT X.K E0 f)
def fTrue (_ : List Sl) : M Bool := okM true
theorem difs_nil : DIfs X [] fTrue := fun pins s σ H Q I q => by
  obtain ⟨H0, δ, S, r, L, e, q⟩ := q
  cases e
  exact pifs_nil pins s σ H Q I (q H S .refl)
theorem difs_one {c : Expr} {f : List Sl → M Bool} (h : DT X E0 c f) : DIfs X [c] f := pifs_one h.pt
theorem len_lc {ft : List Sl → M Bool} {fe : List Sl → M Rz} {δ : List Sl} : ∀ {items ds : List PyData}, lcN ft fe δ items = some ds → ds.length ≤ items.length
  | [], ds, h => by cases h; exact Nat.le_refl _
  | d :: r, ds, h => by
    unfold lcN at h
    split at h
    · split at h
      · split at h
        · rename_i e es e1 e2
          cases h
          have := len_lc e2
          simp; omega
        · cases h
      · cases h
    · have := len_lc h
      simp; omega
    · cases h
theorem rd_lc {wi : TI} {fi : List Sl → M (List PyData)} {ft : List Sl → M Bool} {fe : List Sl → M Rz} (i2 : RdIc K E wi fi) : RdE K E (tLC wi (tDT K E0 ft) (tD K E0 fe)) (fLC fi ft fe) := by
  intro H0 σ H δ S Q z L h q
  rcases bnd_inv h with ⟨items, h1, h⟩ | ⟨C, h1, rfl⟩
  · refine i2 H0 σ H δ S _ _ L h1 fun J H1 S1 g1 it => ?_
    split at h
    · rename_i hsz
      split at h
      · rename_i total etot
        cases h
        intro acc hacc
        have L1 := L.ext g1
        have ne : ∀ (j : Nat) (es : List PyData), δ[j]? = some (Sl.own es) → σ[j]? ≠ some (some (V.ref acc)) := fun j es e c => by
          obtain ⟨b, e1, e2⟩ := L1.owned j es e
          rw [c] at e1; cases e1
          exact e2 hacc
        have tl := len_lc etot
        refine ⟨fun i m xs H => m = items.length - i ∧ i ≤ items.length ∧ ∃ S es rest, Loc K (hid H1 S1) σ H δ S ∧ S acc = true ∧ H acc = some (.lst xs) ∧ DVs K (hid H S) xs es ∧ lcN ft fe δ (items.drop i) = some rest ∧ es ++ rest = total ∧ Ext H1 S1 H S,
          ⟨items.length, by simp, Nat.zero_le _, ins S1 acc, [], total, ?_, ins_same, upd_same, .nil, etot, rfl, Ext.ins hacc⟩, ?_⟩
        · have := (L1.ground).ext (Ext.ins (xs := []) hacc)
          exact this
        · rintro i m xs H2 ⟨rfl, hi, S2, es, rest, L2, sa, ha, hx, hr, htot, g2⟩
          refine ⟨ha, ?_⟩
          by_cases hlt : i < items.length
          · have ei : items[i]? = some items[i] := List.getElem?_eq_getElem hlt
            rw [List.drop_eq_getElem_cons hlt] at hr
            unfold lcN at hr
            refine .inr ⟨it.go i H2 g2.up hlt, fun y H' hy => ?_⟩
            obtain ⟨rfl, dy⟩ := it.yld i H2 y H' _ g2.up ei hy
            have Lc := L2.cons (DV.same L2.base dy)
            split at hr
            · rename_i et
              refine ⟨_, _, S2, _, Lc, et, fun H3 S3 g3 => ?_⟩
              refine iteT ?_
              split at hr
              · rename_i zz ez
                split at hr
                · rename_i e er e1 e2
                  cases hr
                  refine ⟨_, _, S3, _, Lc.ext g3, ez, fun v H4 S4 g4 rv => ?_⟩
                  have L4 := (L2.ext g3).ext g4
                  have xe4 := (g2.trans g3).trans g4
                  have sa4 : S4 acc = true := g4.sub _ (g3.sub _ sa)
                  have lx : xs.length < sizeLine := by
                    rw [DVs.len hx]
                    have : es.length + (er.length + 1) = total.length := by rw [← htot, List.length_append, List.length_cons]
                    omega
                  refine ⟨g4.up _ _ (g3.up _ _ ha), lx, items.length - (i + 1), by omega, rfl, hlt, S4, es ++ [e], er, L4.mutX sa4 ne (fun j k => L1.kids xe4 j acc k hacc), sa4, upd_same, ?_, e2, by rw [List.append_assoc]; exact htot, ?_⟩
                  · rw [hid_mut sa4]
                    exact DVs.append (.cons (datOf_ok ((Lc.ext g3).ext g4) rv e1) .nil) (DVs.same g4.hd (DVs.same g3.hd hx))
                  · refine ⟨fun b o e => ?_, by rw [hid_mut sa4]; exact xe4.hd, xe4.sub, fun b hb => ?_⟩
                    · have : b ≠ acc := by intro z; subst z; rw [hacc] at e; cases e
                      rw [upd_ne this]; exact xe4.up b o e
                    · rcases xe4.new b hb with z | ⟨z, w⟩
                      · exact .inl z
                      · refine .inr ⟨z, ?_⟩
                        by_cases c : b = acc
                        · subst c; exact ⟨_, upd_same⟩
                        · rw [upd_ne c]; exact w
                · cases hr
              · cases hr
            · rename_i et
              refine ⟨_, _, S2, _, Lc, et, fun H3 S3 g3 => ?_⟩
              refine iteF ?_
              exact ⟨items.length - (i + 1), by omega, rfl, hlt, S3, es, rest, L2.ext g3, g3.sub _ sa, g3.up _ _ ha, DVs.same g3.hd hx, hr, htot, g2.trans g3⟩
            · cases hr
          · have e : i = items.length := by omega
            subst e
            rw [List.drop_length] at hr
            cases hr
            rw [List.append_nil] at htot
            subst htot
            refine .inl ⟨it.stop _ H2 g2.up (Nat.le_refl _), q _ H2 S2 (g1.trans g2) ⟨acc, xs, rfl, sa, g1.up.free hacc, ha, hx⟩⟩
      · cases h
    · cases h
  · exact i2 H0 σ H δ S _ _ L h1 q
theorem de_lc {n : Nat} {x : Str} {scope : Scope} {elt iter : Expr} {ifs : List Expr} {px pos : Pos} {fi : List Sl → M (List PyData)} {ft : List Sl → M Bool} {fe : List Sl → M Rz} (Z : Fit n X E) (hcell : ∀ y, X.env.scope.names.lookup y = some .cell → ∃ c, X.env.cells.lookup y = some c) (chk : compChk X.N x scope X.env.scope = true)
    (hi : DIc X E (.Name x px) iter fi) (ht : ∀ cl C s0 H0 fp, Fit n (cxC X x scope cl C s0 H0 fp) E0 → DIfs (cxC X x scope cl C s0 H0 fp) ifs ft) (he : ∀ cl C s0 H0 fp, Fit n (cxC X x scope cl C s0 H0 fp) E0 → DE (cxC X x scope cl C s0 H0 fp) E0 elt fe)
    (hf : ∀ v, foldedSetIterable iter X.env v = pure v := by intro _; rfl) : DE X E (.ListComp elt [⟨.Name x px, iter, ifs, 0⟩] scope pos) (fLC fi ft fe) := by
  obtain ⟨cl, ok⟩ := comp_ok hcell chk
  obtain ⟨wi, i1, i2⟩ := hi
  have fit : ∀ C s0 H0 fp, Fit n (cxC X x scope cl C s0 H0 fp) E0 := fun C s0 H0 fp => by
    refine ⟨fun pins σ H s e s' I h => ?_, fun pins σ H s h' ea C' vs I hm hE => hE.elim, PassesOwn.never, Z.cm, Z.rm, List.nodup_cons.mpr ⟨ok.nd, Z.nd⟩⟩
    obtain ⟨_, _, _, _, _, _, _, _, _, _, _, _, _, _, z⟩ := h
    exact z.elim
  exact ⟨_, pe_lc (tt := tDT X.K E0 ft) (te := tD X.K E0 fe) ok Z.nd Z.cm i1 (fun C s0 H0 fp => ht cl C s0 H0 fp (fit C s0 H0 fp)) (fun C s0 H0 fp => (he cl C s0 H0 fp (fit C s0 H0 fp)).pe) hf, rd_lc i2⟩
theorem ds_lcA (iy : Nat) {n : Nat} {x y : Str} {scope : Scope} {elt iter : Expr} {ifs : List Expr} {px py pos spos : Pos} {fi : List Sl → M (List PyData)} {ft : List Sl → M Bool} {fe : List Sl → M Rz} (Z : Fit n X E) (hcell : ∀ y, X.env.scope.names.lookup y = some .cell → ∃ c, X.env.cells.lookup y = some c) (chk : compChk X.N x scope X.env.scope = true)
    (hi : DIc X E (.Name x px) iter fi) (ht : ∀ cl C s0 H0 fp, Fit n (cxC X x scope cl C s0 H0 fp) E0 → DIfs (cxC X x scope cl C s0 H0 fp) ifs ft) (he : ∀ cl C s0 H0 fp, Fit n (cxC X x scope cl C s0 H0 fp) E0 → DE (cxC X x scope cl C s0 H0 fp) E0 elt fe)
    (hiy : X.N[iy]? = some y := by rfl) (hy : L2.Loc X.env.scope y := by first | exact Or.inl rfl | exact Or.inr rfl) (hfy : X.fn y = true ∨ X.env.scope.names.lookup y = some .local := by first | exact .inl rfl | exact .inr rfl) (hsw : swapsWith (.ListComp elt [⟨.Name x px, iter, ifs, 0⟩] scope pos) (some (.Name y py)) spos.line X.env = pure true := by rfl)
    (hf : ∀ v, foldedSetIterable iter X.env v = pure v := by intro _; rfl) : DS X E (.Assign [.Name y py] (.ListComp elt [⟨.Name x px, iter, ifs, 0⟩] scope pos) spos) (fSet iy (fLC fi ft fe)) := by
  obtain ⟨cl, ok⟩ := comp_ok hcell chk
  obtain ⟨wi, i1, i2⟩ := hi
  have fit : ∀ C s0 H0 fp, Fit n (cxC X x scope cl C s0 H0 fp) E0 := fun C s0 H0 fp => by
    refine ⟨fun pins σ H s e s' I h => ?_, fun pins σ H s h' ea C' vs I hm hE => hE.elim, PassesOwn.never, Z.cm, Z.rm, List.nodup_cons.mpr ⟨ok.nd, Z.nd⟩⟩
    obtain ⟨_, _, _, _, _, _, _, _, _, _, _, _, _, _, z⟩ := h
    exact z.elim
  exact ⟨_, ps_lcA (tt := tDT X.K E0 ft) (te := tD X.K E0 fe) ok Z.nd Z.cm i1 (fun C s0 H0 fp => ht cl C s0 H0 fp (fit C s0 H0 fp)) (fun C s0 H0 fp => (he cl C s0 H0 fp (fit C s0 H0 fp)).pe) hiy hy hfy hsw hf, rd_set (rd_lc i2)⟩
end
end D3
namespace D3
open PySem PySem.Spec PyProof.Rows L2 L3
variable [Ecx]
section
variable {X : Cx} {E : XK} {K : PySem.W.Frag}
def CatchAll (K : PySem.W.Frag) (B : Addr) (cs : Ex → Bool) : Prop := ∀ n, cs n = true → CatchK K (ecx n) B ∧ isFn n = false
def afterH (j : Nat) (r : Option Fl) : Option Fl :=
  match r with
  | some (.next δ) => some (.next (δ.set j .no))
  | _ => none
def fTry (cs : Ex → Bool) (g : List Rz → M Rz) (fa : List Sl → M (List Rz)) (k : Rz → List Sl → Option (List Sl)) (j : Nat) (b : List Sl → Option Fl) (δ : List Sl) : Option Fl :=
  match fa δ with
  | some (.ok zs) => (match g zs with
    | some (.ok z) => (match k z δ with | some δ' => some (.next δ') | none => none)
    | some (.err C) => if cs C = true then afterH j (b (δ.set j (.exc C))) else none
    | none => none)
  | _ => none
theorem try_rd {m : Nat} {f : List PyData → M Out} {fa : List Sl → M (List Rz)} {ta : TA} {ts : TS} {cs : Ex → Bool} {B : Addr} {j : Nat} {b : List Sl → Option Fl} {H0 H : Hp} {σ : L2.St} {δ : List Sl} {S : Addr → Bool} {D : Ends} {fl : Fl} {k : Rz → List Sl → Option (List Sl)} {Qn : V → Hp → Prop}
    (ra : RdA K E0 ta fa) (rb : RdS K E0 ts b) (hc : CatchAll K B cs) (L : Loc K H0 σ H δ S) (h : fTry cs (gF m f) fa k j b δ = some fl)
    (hn : ∀ z δ', k z δ = some δ' → fl = .next δ' → ∀ v H' S', Ext H S H' S' → RV K H H' S' v z → Qn v H')
    (q : EndS K E H0 D fl) : ta σ H fun vs H1 => spD K m f vs H1 Qn fun C _ H' => ∃ c, C = .ref c ∧ CatchK K c B ∧
      ∀ ea, H' ea = none → ts { nx := fun σ' H2 => D.nx (σ'.set j none) H2, rt := fun _ _ => False } (σ.set j (some (.ref ea))) (upd H' ea (excO ea (.ref c))) := by
  unfold fTry at h
  split at h
  · rename_i zs e
    refine ra H0 σ H δ S _ _ L e fun vs H1 S1 g1 rs => ?_
    have go : ∀ z, gF m f zs = some z → EndE K (fun C _ H' => ∃ c, C = .ref c ∧ CatchK K c B ∧
      ∀ ea, H' ea = none → ts { nx := fun σ' H2 => D.nx (σ'.set j none) H2, rt := fun _ _ => False } (σ.set j (some (.ref ea))) (upd H' ea (excO ea (.ref c)))) H1 S1 Qn z → spD K m f vs H1 Qn fun C _ H' => ∃ c, C = .ref c ∧ CatchK K c B ∧
      ∀ ea, H' ea = none → ts { nx := fun σ' H2 => D.nx (σ'.set j none) H2, rt := fun _ _ => False } (σ.set j (some (.ref ea))) (upd H' ea (excO ea (.ref c))) := fun z ez en => by
      have := cd_fn (K := K) (n := m) (f := f) H0 σ H1 δ S1 H vs zs z Qn (L.ext g1) rs ez en
      dsimp only at this
      rwa [List.append_nil] at this
    split at h
    · rename_i z ez
      split at h
      · rename_i δ' e2
        cases h
        exact go _ ez fun v H' S' g rv => hn z δ' e2 rfl v H' S' (g1.trans g) (rv.back g1)
      · cases h
    · rename_i C ez
      split at h
      · rename_i hcs
        refine go _ ez fun H' S' g => ⟨_, rfl, (hc C hcs).1, fun ea he => ?_⟩
        have L1 := (L.ext g1).ext g
        have g2 : Ext H' S' (upd H' ea (excO ea (.ref (ecx C)))) S' := Ext.same (same_new he _)
        have L2 := (L1.ext g2).put (i := j) (o := some (.ref ea)) (s := .exc C) (fun _ z => nomatch z) (fun _ z => nomatch z) (fun C' e => by cases e; exact ⟨ea, rfl, .inl ⟨(hc C hcs).2, same_upd_hid L1.lst he⟩⟩)
        unfold afterH at h
        split at h
        · rename_i δ' e3
          cases h
          exact rb H0 _ _ _ S' _ _ L2 e3 fun σ' H3 S3 L3 => q _ H3 S3 (L3.put (fun _ z => nomatch z) (fun _ z => nomatch z) (fun _ z => nomatch z))
        · cases h
      · cases h
    · cases h
  · cases h
def kDrop (_ : Rz) (δ : List Sl) : Option (List Sl) := some δ
theorem ds_tryE (j : Nat) {kk n m : Nat} {fx x nm : Str} {ps : List Str} {f : List PyData → M Out} {e : Expr} {es : List Expr} {fa : List Sl → M (List Rz)} {b : List Sl → Option Fl} {cs : Ex → Bool} {B : Addr} {b0 : Stmt} {suite : List Stmt} {p1 pc np hp pos fp : Pos} (Z : Fit n X E)
    (C : Cal X.prog X.w X.K X.mg X.base (CXR X.prog X.w) kk fx ps (spD X.K m f)) (hc : CatchAll X.K B cs) (hm : X.mg x = some (.ref B)) (ha : DA X.nox E0 (e :: es) fa) (hb : ∀ ea xe, DSs (L3.Cx.inH X ea xe) E0 (b0 :: suite) b)
    (hst : X.stack = X.env :: X.outer) (hfr : X.env.frame = some X.env.locals) (hn : kk ≤ n := by decide) (hj : X.N[j]? = some nm := by rfl) (hl : X.env.kindOf nm = some .local := by rfl)
    (hgf : Gl X fx := by rfl) (hdf : (fx == ("__debug__" : Str)) = false := by decide) (he : starEach (e :: es) X.env = (false, eval e X.env) :: starEach es X.env := by rfl) (hpl : (backTo pc (starEach es X.env)).any (·.1) = false := by rfl)
    (hg : Gl X x := by rfl) (hdb : (x == ("__debug__" : Str)) = false := by decide) (hsw : swapsWith (.Call (.Name fx fp) (e :: es) [] pc) none p1.line X.env = pure false := by rfl) :
    DS X E (.Try [.Expr (.Call (.Name fx fp) (e :: es) [] pc) p1] [.ExceptHandler (some (.Name x np)) (some nm) (b0 :: suite) hp] [] [] pos) (fTry cs (gF m f) fa kDrop j b) := by
  obtain ⟨ta, a1, a2⟩ := ha
  have pb : ∀ ea xe, PSs (L3.Cx.inH X ea xe) (b0 :: suite) (tDS X.K E0 b) := fun ea xe => (hb ea xe).ps
  refine ⟨_, ps_tryE (pex_cal C Z.rm a1 hn hgf hdf he hpl) pb Z.nd hj hl hm hst hfr hg hdb hsw, fun H0 σ H δ S D fl L h q => ?_⟩
  refine try_rd a2 (fun H0 σ H δ S D fl L h q => ⟨H0, δ, S, fl, L, h, q⟩) hc L h (fun z δ' e1 e2 v H' S' g rv => ?_) q
  cases e1
  subst e2
  exact q σ H' S' (L.ext g)
end
end D3
namespace D3
open PySem PySem.Spec PyProof.Rows L2 L3
variable [Ecx]
structure HasC (K : PySem.W.Frag) (mg : Str → Option Value) (x : Str) (d : PyData) : Prop where
  ex : ∃ v u, mg x = some u ∧ RelV v u ∧ ∀ H, DV K H v d
theorem de_const {X : Cx} {E : XK} {x : Str} {d : PyData} {pos : Pos} (h : HasC X.K X.mg x d) (hg : Gl X x := by rfl) (hdb : (x == ("__debug__" : Str)) = false := by decide) : DE X E (.Name x pos) (fC d) := by
  obtain ⟨v, u, hm, r, hd⟩ := h.ex
  exact de_glob hm r hd hg hdb
theorem hasC_int {K : PySem.W.Frag} {mg : Str → Option Value} {x : Str} {i : Int} {t : Tok} (h : mg x = some (.int i t)) : HasC K mg x (.int i) := ⟨.int i, _, h, ⟨t, rfl⟩, fun _ => .int i⟩
theorem hasC_pair {K : PySem.W.Frag} {mg : Str → Option Value} {x : Str} {a : Addr} {i j : Int} {t u : Tok} {od : Option Addr} {n : Nat} {sl : Array (Option Value)} (h : mg x = some (.ref a)) (l : K.lookup a = some ⟨.type "tuple", od, .seq #[.int i t, .int j u] n, sl⟩) : HasC K mg x (.tuple [.int i, .int j]) :=
  ⟨.ref a, _, h, rfl, fun H => .tup (xs := [.int i, .int j]) (.inr ⟨_, _, _, l, rfl, rfl, (by show 2 ≤ sizeLine; decide), .cons ⟨t, rfl⟩ (.cons ⟨u, rfl⟩ .nil)⟩) (.cons (.int i) (.cons (.int j) .nil))⟩
def ansL : List (Tg × Bool) → Tg → Option Bool
  | [], _ => none
  | (t, b) :: r, tg => if tg = t then some b else ansL r tg
theorem ansL_mem : ∀ {l : List (Tg × Bool)} {tg : Tg} {b : Bool}, ansL l tg = some b → (tg, b) ∈ l
  | [], _, _, h => nomatch h
  | (t, b') :: r, tg, b, h => by
    unfold ansL at h
    split at h
    · rename_i e; subst e; cases h; exact .head _
    · exact .tail _ (ansL_mem h)
theorem isK_of {K : PySem.W.Frag} {cv : V} {l : List (Tg × Bool)} (c : isCls cv = true) (h : ∀ p ∈ l, PySem.W.kitOne K (tgV p.1) (vOf cv) = some p.2 ∧ ∀ n, p.1 = .exc n → ExcK K (ecx n)) : IsK K cv (ansL l) :=
  ⟨c, fun tg b e => (h _ (ansL_mem e)).1, fun n b e => (h _ (ansL_mem e)).2 n rfl⟩
theorem isKs_of {K : PySem.W.Frag} {cs : List V} {l : List (Tg × Bool)} (c : ∀ c ∈ cs, isCls c = true) (h : ∀ p ∈ l, PySem.W.kitAny K (tgV p.1) (cs.map vOf) = some p.2 ∧ ∀ n, p.1 = .exc n → ExcK K (ecx n)) : IsKs K cs (ansL l) :=
  ⟨c, fun tg b e => (h _ (ansL_mem e)).1, fun n b e => (h _ (ansL_mem e)).2 n rfl⟩
theorem catch_of {K : PySem.W.Frag} {B : Addr} {cs : List Ex} (h : ∀ n ∈ cs, CatchK K (ecx n) B) (hf : ∀ n ∈ cs, isFn n = false := by decide) : CatchAll K B (fun n => decide (n ∈ cs)) := fun n e => ⟨h n (of_decide_eq_true e), hf n (of_decide_eq_true e)⟩
theorem dvs_ints {K : PySem.W.Frag} {H : Hp} : ∀ ns : List Int, DVs K H (ns.map V.int) (ns.map PyData.int)
  | [] => .nil
  | n :: r => .cons (.int n) (dvs_ints r)
theorem law_conv {P : Program} {w : World} {K : PySem.W.Frag} {mg : Str → Option Value} {base : Heap} {k : Nat} {f : Addr} {fd : FuncData} {F : List PyData → M Out} (h : FnOk P w K mg base (CXR P w) k f fd ["_law_script"] (spD K 1 F)) (hk : k ≤ 40)
    (pure_ : ∀ ns : List Int, ns.length ≤ 63 → F [.list (ns.map PyData.int)] = some (.ok (.val (.bool true)))) : FnOk P w K mg base CX0 40 f fd ["_law_script"] (spLaw K) := by
  refine ⟨fun vs H Q E h => ?_, fun A outer s H args us vs Q E hr e0 hb rv sp => ?_⟩
  · obtain ⟨a, ns, rfl, _⟩ := h; rfl
  · obtain ⟨a, ns, rfl, hS, hl, q⟩ := sp
    refine codeAny_mono (h.run A outer s H args us [.ref a] Q (fun _ _ _ => False) (hr.mono hk) e0 hb rv ⟨[.list (ns.map PyData.int)], _, rfl, .cons (.lst hS (dvs_ints ns)) .nil, pure_ ns hl, ?_⟩) fun r s' hq => ?_
    · intro v H' g dv
      cases dv
      exact q H'
    · cases r with
      | ok fl => cases fl <;> exact hq
      | error e =>
        obtain ⟨_, _, _, _, _, _, _, _, _, _, _, _, _, _, z⟩ := hq
        exact z.elim
end D3
namespace D3
open PySem PySem.Spec PyProof.Rows L2 L3
variable [Ecx]
section
variable {X : Cx} {E : XK} {K : PySem.W.Frag}
def itemsRevT (x : Rz) : M (List PyData) :=
  match x with
  | .dat (.tuple ds) => okM ds.reverse
  | .use (.tuple ds) => if noLs ds = true then okM ds.reverse else none
  | _ => none
theorem it_revT {Hh : Hp} {a : Addr} {xs : List V} {ds : List PyData} (hs : SqT K Hh a xs) (hx : DVs K Hh xs ds) : ItOk K (Itv K a xs.length) Hh ds.reverse := by
  have hl := DVs.len hx
  refine ⟨fun i H g hi => ⟨by rw [List.length_reverse] at hi; omega, xs, SameT g hs, rfl⟩, fun i H x H' d g e y => ?_, fun i H g hi => ⟨by rw [List.length_reverse] at hi; omega, xs, SameT g hs, rfl⟩⟩
  obtain ⟨rfl, y⟩ := y
  have hi : i < ds.length := by
    by_cases c : i < ds.length
    · exact c
    · rw [List.getElem?_eq_none (by rw [List.length_reverse]; omega)] at e; cases e
  rw [List.getElem?_reverse hi] at e
  obtain ⟨v, e1, dv⟩ := DVs.get hx e
  have e2 := y xs (SameT g hs)
  rw [hl, e1] at e2; cases e2
  exact ⟨rfl, dv⟩
theorem di_revT {tg e : Expr} {f : List Sl → M Rz} {p pos : Pos} (hm : X.mg "reversed" = none) (h : DE X E e f) (hg : Gl X "reversed" := by rfl) (hs : starEach [e] X.env = [(false, eval e X.env)] := by rfl) : DI X E tg (.Call (.Name "reversed" p) [e] [] pos) (fI itemsRevT f) := by
  obtain ⟨t, a, b⟩ := h
  refine ⟨_, pi_revT hg hm (pa_cons a pa_nil hs) hs, fun H0 σ H δ S R r L h q => ?_⟩
  rcases bnd_inv h with ⟨x, h1, h⟩ | ⟨C, h1, rfl⟩
  · refine b H0 σ H δ S _ _ L h1 fun v H1 S1 g1 rv => ?_
    unfold itemsRevT at h
    split at h
    · rename_i ds
      cases h
      have rv' : DV X.K (hid H1 S1) v (.tuple ds) := rv
      cases rv' with
      | tup hs hx => exact ⟨_, _, rfl, SameT hid_up hs, q _ H1 S1 g1 (it_revT hs hx)⟩
    · rename_i ds
      split at h
      · rename_i k
        cases h
        have rv' : DV X.K H1 v (.tuple ds) := rv
        cases rv' with
        | tup hs hx => exact ⟨_, _, rfl, hs, q _ H1 S1 g1 (it_revT ((L.ext g1).tk.tup hs) (DVs.ts (L.ext g1).tk hx k))⟩
      · cases h
    · cases h
  · exact b H0 σ H δ S _ _ L h1 q
def rangeD (lo : Int) (n : Nat) : List PyData := (List.range n).map fun (i : Nat) => PyData.int (lo - i)
theorem it_rangeD {Hh : Hp} (lo : Int) (n : Nat) : ItOk K (Itd lo n) Hh (rangeD lo n) := by
  have hl : (rangeD lo n).length = n := by unfold rangeD; rw [List.length_map, List.length_range]
  refine ⟨fun i H g hi => by rw [hl] at hi; exact hi, fun i H x H' d g e y => ?_, fun i H g hi => by rw [hl] at hi; exact hi⟩
  obtain ⟨rfl, rfl⟩ := y
  unfold rangeD at e
  rw [List.getElem?_map] at e
  by_cases c : i < n
  · rw [List.getElem?_range c] at e; cases e; exact ⟨rfl, .int _⟩
  · rw [List.getElem?_eq_none (by rw [List.length_range]; omega)] at e; cases e
def rng3 (zs : List Rz) : M (List PyData) :=
  match dsOf zs with
  | some [.int i, .int j, .int (-1)] => if -(2 ^ 62) ≤ i ∧ i < 2 ^ 62 ∧ -(2 ^ 62) ≤ j ∧ j < 2 ^ 62 then okM (rangeD i (i - j).toNat) else none
  | _ => none
theorem di_range3 {tg a c d : Expr} {p pos : Pos} {f : List Sl → M (List Rz)} (hm : X.mg "range" = none) (ha : DA X E [a, c, d] f) (hg : Gl X "range" := by rfl) (hs : starEach [a, c, d] X.env = (false, eval a X.env) :: starEach [c, d] X.env := by rfl) (hpl : (backTo pos (starEach [c, d] X.env)).any (·.1) = false := by rfl) : DI X E tg (.Call (.Name "range" p) [a, c, d] [] pos) (fR rng3 f) := by
  obtain ⟨t, a1, b⟩ := ha
  refine ⟨_, pi_range3 hg hm a1 hs hpl, fun H0 σ H δ S R r L h q => ?_⟩
  rcases bnd_inv h with ⟨zs, h1, h⟩ | ⟨C, h1, rfl⟩
  · refine b H0 σ H δ S _ _ L h1 fun vs H1 S1 g1 rs => ?_
    unfold rng3 at h
    split at h
    · rename_i i j e
      split at h
      · rename_i hc
        cases h
        have hx := dsOf_ok rs e
        cases hx with
        | cons x y =>
          cases x
          cases y with
          | cons x y =>
            cases x
            cases y with
            | cons x y => cases x; cases y; exact ⟨i, j, rfl, hc, q _ H1 S1 g1 (it_rangeD i _)⟩
      · cases h
    · cases h
  · exact b H0 σ H δ S _ _ L h1 q
end
end D3
namespace D3
open PySem PySem.Spec PyProof.Rows L2 L3
theorem boot_ValueError : bootBuiltins "ValueError" = some (.type "ValueError") := by decide +kernel
end D3
namespace D3
open PySem PySem.Spec PyProof.Rows L2 L3
variable [Ecx]
section
variable {X : Cx} {E : XK}
end
end D3
namespace D3
open PySem PySem.Spec PyProof.Rows L2 L3
variable [Ecx]
section
variable {X : Cx} {E : XK} {K : PySem.W.Frag}
theorem sqT_same {H H' : Hp} {a : Addr} {xs : List V} (e : Same H H') (h : SqT K H a xs) : SqT K H' a xs := by
  rcases h with (h | ⟨o, h⟩) | h
  · exact .inl (.inl (e _ _ h))
  · exact .inl (.inr ⟨o, e _ _ h⟩)
  · exact .inr h
def gSlT (x : Rz) (lo hi : Option Int) : M Rz :=
  match x.d? with
  | some (.tuple ds) => if kept x ds = true then okM (.dat (.tuple (cutD ds lo hi))) else none
  | _ => none
theorem sd_tup : SlD K E (rSlTW K) gSlT := by
  intro H0 σ H δ S Hs v x lo hi z Q L rv h q
  unfold gSlT at h
  split at h
  · rename_i ds e
    split at h
    · rename_i k
      cases h
      obtain ⟨a, xs, rfl, hs, hx, hk⟩ := seq_tup L rv e
      refine ⟨a, xs, rfl, hs, fun hw => ?_, fun _ p hp => ?_⟩
      · have e1 : cutD ds lo hi = ds := by
          unfold cutD
          rw [← DVs.len hx, hw.1, hw.2]
          simp [DVs.len hx]
        rw [e1] at q
        exact q _ H S .refl (.tup (hk k).2 (hk k).1)
      · have g2 : Ext H S (upd H p (.tup (cutV xs lo hi))) S := Ext.same (same_new hp _)
        exact q _ _ S g2 (.tup (SqT.of (same_upd_hid L.lst hp)) (DVs.same g2.hd (DVs.cut lo hi (hk k).1)))
    · cases h
  · cases h
def compChk2 (N : List Str) (x x2 : Str) (sc dsc : Scope) : Bool := compChk N x sc dsc && decide (sc.names.lookup x2 = some .local) && !N.contains x2 && decide (x ≠ x2)
end
end D3
namespace D3
open PySem PySem.Spec PyProof.Rows L2 L3
variable [Ecx]
section
variable {X : Cx} {E : XK} {K : PySem.W.Frag}
def mineOf (x : Rz) : Option PyData :=
  match x with
  | .dat d => if noL d = true then some d else none
  | .use d => if noL d = true then some d else none
  | .new ds => if noLs ds = true then some (.list ds) else none
  | .var ds => if noLs ds = true then some (.list ds) else none
  | .exc _ => none
theorem mineOf_ok {H0 Hs H : Hp} {σ : L2.St} {δ : List Sl} {S : Addr → Bool} {v : V} {x : Rz} {d : PyData} (L : Loc K H0 σ H δ S) (r : RV K Hs H S v x) (h : mineOf x = some d) : DV K (newL H0 H) v d := by
  cases x with
  | dat e =>
    unfold mineOf at h; dsimp only at h
    split at h
    · cases h; exact DV.ts newL_tk (DV.same hid_up r) (by assumption)
    · cases h
  | use e =>
    unfold mineOf at h; dsimp only at h
    split at h
    · cases h; exact DV.ts newL_tk r (by assumption)
    · cases h
  | new e =>
    unfold mineOf at h; dsimp only at h
    split at h
    · rename_i k
      cases h
      obtain ⟨a, xs, rfl, z, n, ha, hx⟩ := r
      exact .lst (SqL.of (by rw [newL_new (L.frs a z)]; exact ha)) (DVs.ts newL_tk (DVs.same hid_up hx) k)
    · cases h
  | var e =>
    unfold mineOf at h; dsimp only at h
    split at h
    · rename_i k
      cases h
      obtain ⟨a, xs, rfl, z, ha, hx⟩ := r
      exact .lst (SqL.of (by rw [newL_new (L.frs a z)]; exact ha)) (DVs.ts newL_tk (DVs.same hid_up hx) k)
    · cases h
  | exc e => cases h
def minesOf : List Rz → Option (List PyData)
  | [] => some []
  | x :: xs => match mineOf x, minesOf xs with
    | some d, some ds => some (d :: ds)
    | _, _ => none
theorem minesOf_ok {H0 Hs H : Hp} {σ : L2.St} {δ : List Sl} {S : Addr → Bool} (L : Loc K H0 σ H δ S) : ∀ {vs : List V} {zs : List Rz} {ds : List PyData}, RVs K Hs H S vs zs → minesOf zs = some ds → DVs K (newL H0 H) vs ds
  | _, _, _, .nil, h => by cases h; exact .nil
  | _, _, _, .cons r t, h => by
    unfold minesOf at h
    split at h
    · rename_i d ds e1 e2
      cases h
      exact .cons (mineOf_ok L r e1) (minesOf_ok L t e2)
    · cases h
def fRetT (fa : List Sl → M (List Rz)) (δ : List Sl) : Option Fl := bS (fa δ) fun zs => match minesOf zs with
  | some ds => if ds.length ≤ sizeLine then some (.ret (.mine (.tuple ds))) else none
  | none => none
theorem ds_retT {es : List Expr} {x1} {pos pos' : Pos} {fa : List Sl → M (List Rz)} (ha : DA X E es fa) : DS X E (.Return (some (.Tuple es x1 pos)) pos') (fRetT fa) := by
  obtain ⟨t, a, b⟩ := ha
  refine ⟨_, ps_ret (pe_tup a), fun H0 σ H δ S D fl L h q => ?_⟩
  rcases bS_inv h with ⟨zs, h1, h⟩ | ⟨C, h1, rfl⟩
  · refine b H0 σ H δ S _ _ L h1 fun vs H1 S1 g1 rs => ?_
    split at h
    · rename_i ds e
      split at h
      · rename_i hl
        cases h
        have L1 := L.ext g1
        have hx := minesOf_ok L1 rs e
        refine ⟨by rw [DVs.len hx]; exact hl, fun p hp => q _ _ (L1.old.trans (same_new hp _)) (.tup (SqT.of ?_) (DVs.same (fun c o e => ?_) hx))⟩
        · unfold newL
          have hp0 : H0 p = none := L1.old.free hp
          rw [hp0]; exact upd_same
        · have hc : c ≠ p := by intro z; subst z; have := newL_up c o e; rw [hp] at this; cases this
          unfold newL at e ⊢
          rw [upd_ne hc]; exact e
      · cases h
    · cases h
  · exact b H0 σ H δ S _ _ L h1 (exc_ext L q)
end
end D3
namespace D3
open PySem PySem.Spec PyProof.Rows L2 L3
variable [Ecx]
section
variable {X : Cx} {E : XK} {K : PySem.W.Frag}
def chkN (N N' : List Str) (x : Str) (sc : Scope) : Bool :=
  decide (N'.length = N.length) && decide N'.Nodup && !N'.contains x && (N.zip N').all fun p => decide (p.1 = p.2) || decide (sc.names.lookup p.2 = none)
theorem comp_okN {N' : List Str} {x : Str} {sc : Scope} (hcell : ∀ y, X.env.scope.names.lookup y = some .cell → ∃ c, X.env.cells.lookup y = some c) (h : compChk N' x sc X.env.scope = true) (h2 : chkN X.N N' x sc = true) : ∃ cl, CompOkN X N' x sc cl := by
  obtain ⟨cl, ok⟩ := comp_ok (X := { X with N := N' }) hcell h
  unfold chkN at h2
  simp only [Bool.and_eq_true, decide_eq_true_eq, Bool.not_eq_true', List.all_eq_true, Bool.or_eq_true] at h2
  obtain ⟨⟨⟨g1, g2⟩, g3⟩, g4⟩ := h2
  have nx : x ∉ N' := fun hm => by
    have : N'.contains x = true := List.contains_iff_mem.mpr hm
    rw [this] at g3; cases g3
  refine ⟨cl, ⟨ok.clos, ok.sub, ok.has, ok.nocell, ok.kind, ok.names, ok.tgt, ok.cellv, List.nodup_cons.mpr ⟨nx, g2⟩, g1, fun i y e v => ?_⟩⟩
  have hi : i < N'.length := by
    by_cases c : i < N'.length
    · exact c
    · rw [List.getElem?_eq_none (by omega)] at e; cases e
  have hi2 : i < X.N.length := by omega
  have em : (X.N[i], N'[i]) ∈ X.N.zip N' := by
    have hz : i < (X.N.zip N').length := by rw [List.length_zip]; omega
    have : (X.N.zip N')[i] = (X.N[i], N'[i]) := List.getElem_zip
    rw [← this]; exact List.getElem_mem hz
  have ey : N'[i] = y := by rw [List.getElem?_eq_getElem hi] at e; exact Option.some.inj e
  rcases g4 _ em with z | z
  · rw [List.getElem?_eq_getElem hi2]
    exact congrArg some (z.trans ey)
  · exfalso
    dsimp only at z
    rw [ey] at z
    have no : ∀ k, (relabel sc X.env).names.lookup y = some k → False := fun k hk => by
      obtain ⟨k', e1, _⟩ := lookup_relabel hk
      rw [z] at e1; cases e1
    rcases v with v | v | v
    · exact no _ v
    · exact no _ v
    · exact no _ v
theorem de_lcN {n : Nat} {N' : List Str} {x : Str} {scope : Scope} {elt iter : Expr} {ifs : List Expr} {px pos : Pos} {fi : List Sl → M (List PyData)} {ft : List Sl → M Bool} {fe : List Sl → M Rz} (Z : Fit n X E) (hcell : ∀ y, X.env.scope.names.lookup y = some .cell → ∃ c, X.env.cells.lookup y = some c) (chk : compChk N' x scope X.env.scope = true) (chk2 : chkN X.N N' x scope = true)
    (hi : DIc X E (.Name x px) iter fi) (ht : ∀ cl C s0 H0 fp, Fit n (cxN X N' x scope cl C s0 H0 fp) E0 → DIfs (cxN X N' x scope cl C s0 H0 fp) ifs ft) (he : ∀ cl C s0 H0 fp, Fit n (cxN X N' x scope cl C s0 H0 fp) E0 → DE (cxN X N' x scope cl C s0 H0 fp) E0 elt fe)
    (hf : ∀ v, foldedSetIterable iter X.env v = pure v := by intro _; rfl) : DE X E (.ListComp elt [⟨.Name x px, iter, ifs, 0⟩] scope pos) (fLC fi ft fe) := by
  obtain ⟨cl, ok⟩ := comp_okN hcell chk chk2
  obtain ⟨wi, i1, i2⟩ := hi
  have fit : ∀ C s0 H0 fp, Fit n (cxN X N' x scope cl C s0 H0 fp) E0 := fun C s0 H0 fp => by
    refine ⟨fun pins σ H s e s' I h => ?_, fun pins σ H s h' ea C' vs I hm hE => hE.elim, PassesOwn.never, Z.cm, Z.rm, ok.nd⟩
    obtain ⟨_, _, _, _, _, _, _, _, _, _, _, _, _, _, z⟩ := h
    exact z.elim
  exact ⟨_, pe_lcN (tt := tDT X.K E0 ft) (te := tD X.K E0 fe) ok Z.cm i1 (fun C s0 H0 fp => ht cl C s0 H0 fp (fit C s0 H0 fp)) (fun C s0 H0 fp => (he cl C s0 H0 fp (fit C s0 H0 fp)).pe) hf, rd_lc i2⟩
end
end D3
namespace D3
open PySem PySem.Spec PyProof.Rows L2 L3
variable [Ecx]
section
variable {X : Cx} {E : XK} {K : PySem.W.Frag}
end
end D3
namespace D3
open PySem PySem.Spec PyProof.Rows L2 L3
variable [Ecx]
section
variable {X : Cx} {E : XK} {K : PySem.W.Frag}
end
end D3
namespace D3
open PySem PySem.Spec PyProof.Rows L2 L3
variable [Ecx]
section
variable {X : Cx} {E : XK} {K : PySem.W.Frag}
section
variable {H0 H H' : Hp} {σ : L2.St} {δ : List Sl} {S S' : Addr → Bool}
end
def pick {α : Type} (j : Int) (a b : α) : Option α := if j = 0 then some a else if j = 1 then some b else none
end
end D3
namespace D3
open PySem PySem.Spec PyProof.Rows L2 L3
variable [Ecx]
section
variable {X : Cx} {E : XK} {K : PySem.W.Frag}
end
end D3
namespace D3
open PySem PySem.Spec PyProof.Rows L2 L3
variable [Ecx]
section
variable {X : Cx} {E : XK} {K : PySem.W.Frag}
end
end D3
namespace D3
open PySem PySem.Spec PyProof.Rows L2 L3
variable [Ecx]
section
variable {X : Cx} {E : XK} {K : PySem.W.Frag}
def blsOf : List PyData → Option (List Bool)
  | [] => some []
  | .bool b :: r => (match blsOf r with | some bs => some (b :: bs) | none => none)
  | _ => none
theorem blsOf_ok {H : Hp} : ∀ {xs : List V} {ds : List PyData} {bs : List Bool}, DVs K H xs ds → blsOf ds = some bs → xs = bs.map V.bl
  | _, _, _, .nil, h => by cases h; rfl
  | _, _, bs, .cons (d := d) r t, h => by
    cases r with
    | bl b =>
      unfold blsOf at h
      split at h
      · rename_i bs' e
        cases h
        rw [blsOf_ok t e]; rfl
      · cases h
    | _ => cases h
def qOf (q : List Bool → Bool) (x : Rz) : M Rz :=
  match x.d? with
  | some (.list ds) => (match blsOf ds with | some bs => okM (.dat (.bool (q bs))) | none => none)
  | _ => none
theorem cd_q {q : List Bool → Bool} : CallD K E (fun xs H Q => ∃ (p : Addr) (bs : List Bool), xs = [.ref p] ∧ SqL K H p (bs.map V.bl) ∧ Q (.bl (q bs)) H) (g1 (qOf q)) := by
  refine cd1 (r := fun v H Q => ∃ (p : Addr) (bs : List Bool), [v] = [V.ref p] ∧ SqL K H p (bs.map V.bl) ∧ Q (.bl (q bs)) H) (fun H0 σ H δ S Hs v x z Q L rv h g => ?_) (fun _ _ _ h => h)
  unfold qOf at h
  split at h
  · rename_i ds e
    split at h
    · rename_i bs e2
      cases h
      have dv := rv.full e
      cases dv with
      | lst hs hx =>
        rename_i a xs
        rw [blsOf_ok hx e2] at hs
        exact ⟨a, bs, rfl, hs, g _ H S .refl (.bl _)⟩
    · cases h
  · cases h
def allB (bs : List Bool) : Bool := bs.all id
def anyB (bs : List Bool) : Bool := bs.any id
theorem cd_all : CallD K E (fun xs H Q => ∃ (p : Addr) (bs : List Bool), xs = [.ref p] ∧ SqL K H p (bs.map V.bl) ∧ Q (.bl (bs.all id)) H) (g1 (qOf allB)) := cd_q (q := allB)
theorem cd_any : CallD K E (fun xs H Q => ∃ (p : Addr) (bs : List Bool), xs = [.ref p] ∧ SqL K H p (bs.map V.bl) ∧ Q (.bl (bs.any id)) H) (g1 (qOf anyB)) := cd_q (q := anyB)
end
end D3
namespace D3
open PySem PySem.Spec PyProof.Rows L2 L3
variable [Ecx]
section
variable {X : Cx} {E : XK} {K : PySem.W.Frag}
def fzOf : Rz → Rz
  | .new ds => .dat (.list ds)
  | x => x
def fFz (f : List Sl → M Rz) (δ : List Sl) : M Rz := bnd (f δ) fun x => okM (fzOf x)
theorem rd_fz {t : TE} {f : List Sl → M Rz} (h : RdE K E t f) : RdE K E t (fFz f) := by
  intro H0 σ H δ S Q r L e q
  rcases bnd_inv e with ⟨x, h1, e⟩ | ⟨C, h1, rfl⟩
  · cases e
    refine h H0 σ H δ S Q _ L h1 fun v H1 S1 g1 rv => ?_
    cases x with
    | new ds =>
      obtain ⟨a, xs, rfl, z, n, ha, hx⟩ := rv
      refine q _ H1 (del S1 a) ⟨g1.up, g1.hd.trans same_del, fun b hb => ?_, fun b hb => ?_⟩ (.lst (SqL.of (by rw [hid_f del_same]; exact ha)) (DVs.same same_del hx))
      · rw [del_ne (by intro z; subst z; obtain ⟨ys, e⟩ := L.lst _ hb; rw [n] at e; cases e)]; exact g1.sub b hb
      · by_cases c : b = a
        · subst c; rw [del_same] at hb; cases hb
        · rw [del_ne c] at hb; exact g1.new b hb
    | dat d => exact q _ H1 S1 g1 rv
    | use d => exact q _ H1 S1 g1 rv
    | var d => exact q _ H1 S1 g1 rv
    | exc d => exact q _ H1 S1 g1 rv
  · exact h H0 σ H δ S Q _ L h1 q
theorem de_fz {e : Expr} {f : List Sl → M Rz} (h : DE X E e f) : DE X E e (fFz f) := let ⟨t, a, b⟩ := h; ⟨t, a, rd_fz b⟩
end
end D3
namespace D3
open PySem PySem.Spec PyProof.Rows L2 L3
variable [Ecx]
section
variable {X : Cx} {E : XK} {K : PySem.W.Frag}
end
end D3
namespace D3
open PySem PySem.Spec PyProof.Rows L2 L3
variable [Ecx]
section
variable {X : Cx} {E : XK} {K : PySem.W.Frag}
end
end D3
namespace D3
open PySem PySem.Spec PyProof.Rows L2 L3
variable [Ecx]
section
variable {X : Cx} {E : XK} {K : PySem.W.Frag}
end
end D3
namespace D3
open PySem PySem.Spec PyProof.Rows L2 L3
variable [Ecx]
section
variable {X : Cx} {E : XK} {K : PySem.W.Frag}
end
end D3
namespace D3
open PySem PySem.Spec PyProof.Rows L2 L3
variable [Ecx]
section
variable {X : Cx} {E : XK} {K : PySem.W.Frag}
end
end D3
namespace D3
open PySem PySem.Spec PyProof.Rows L2 L3
section
variable {P : Program} {w : World}
end
variable [Ecx]
end D3
namespace D3
open PySem PySem.Spec PyProof.Rows L2 L3
variable [Ecx]
section
variable {X : Cx} {E : XK} {K : PySem.W.Frag}
end
end D3
namespace D3
open PySem PySem.Spec PyProof.Rows L2 L3
variable [Ecx]
section
variable {X : Cx} {E : XK} {K : PySem.W.Frag}
inductive Xl where
  | next (δ : List Sl)
  | exc (C : Ex) (δ : List Sl)
end
end D3
namespace D3
open PySem PySem.Spec PyProof.Rows L2 L3
variable [Ecx]
def spV (K : PySem.W.Frag) (n : Nat) (f : Ex → List PyData → M Out) : Sp := fun vs H Q E => ∃ (C : Ex) (ws : List V) (ds : List PyData) (o : Res Out), vs = ws ++ [.ref (ecx C)] ∧ isFn C = true ∧ ws.length = n ∧ DVs K H ws ds ∧ f C ds = some o ∧ EndF K E H Q o
def fnV (n m : Nat) (f : List Sl → Option Fl) (C : Ex) (ds : List PyData) : M Out :=
  if ds.length = n then (match f (ds.map Sl.dat ++ Sl.exc C :: List.replicate m Sl.no) with
    | some (.ret o) => some (.ok o)
    | some (.next _) => some (.ok (.val .none))
    | some (.exc C) => some (.err C)
    | _ => none) else none
theorem loc_startV {K : PySem.W.Frag} {H : Hp} {C : Ex} {ws : List V} {ds : List PyData} {N : List Str} {m : Nat} (hf : isFn C = true) (h : DVs K H ws ds) (hm : N.length - (ws.length + 1) = m) : Loc K H (L2.start N (ws ++ [V.ref (ecx C)])) H (ds.map Sl.dat ++ Sl.exc C :: List.replicate m Sl.no) (fun _ => false) := by
  have hh : hid H (fun _ => false) = H := by funext b; exact hid_f rfl
  have hl := DVs.len h
  have at_ : ∀ (i : Nat) (s : Sl), (ds.map Sl.dat ++ Sl.exc C :: List.replicate m Sl.no)[i]? = some s → (∃ d, ds[i]? = some d ∧ s = .dat d) ∨ (i = ds.length ∧ s = .exc C) ∨ s = .no := fun i s e => by
    by_cases c : i < ds.length
    · rw [List.getElem?_append_left (by rw [List.length_map]; exact c), List.getElem?_map, List.getElem?_eq_getElem c] at e
      cases e
      exact .inl ⟨_, List.getElem?_eq_getElem c, rfl⟩
    · rw [List.getElem?_append_right (by rw [List.length_map]; omega), List.length_map] at e
      cases c2 : i - ds.length with
      | zero =>
        rw [c2] at e
        cases e
        exact .inr (.inl ⟨by omega, rfl⟩)
      | succ k =>
        rw [c2, List.getElem?_cons_succ, List.getElem?_replicate] at e
        split at e
        · cases e; exact .inr (.inr rfl)
        · cases e
  refine ⟨Same.refl _, (fun b h => nomatch h), (fun b h => nomatch h), ?_, fun i d e => ?_, fun i C' e => ?_, fun i es e => ?_, fun i j d1 d2 a e1 => ?_, fun i o e => ?_, fun i j ds' a kd => ?_, fun i j a kd => ?_⟩
  · unfold L2.start
    simp only [List.length_append, List.length_map, List.length_replicate, List.length_cons, List.length_nil]
    omega
  · rcases at_ i _ e with ⟨d', e1, e2⟩ | ⟨_, e2⟩ | e2
    · cases e2
      obtain ⟨v, e3, dv⟩ := DVs.get h e1
      refine ⟨v, ?_, by rw [hh]; exact dv⟩
      unfold L2.start
      have : i < ws.length := (List.getElem?_eq_some_iff.mp e3).1
      rw [List.getElem?_append_left (by rw [List.length_map, List.length_append]; omega), List.getElem?_map, List.getElem?_append_left this, e3]
      rfl
    · cases e2
    · cases e2
  · rcases at_ i _ e with ⟨_, _, e2⟩ | ⟨e1, e2⟩ | e2
    · cases e2
    · cases e2
      refine ⟨ecx C, ?_, .inr ⟨hf, rfl⟩⟩
      unfold L2.start
      rw [e1, ← hl, List.getElem?_append_left (by rw [List.length_map, List.length_append, List.length_cons]; omega), List.getElem?_map, List.getElem?_append_right (Nat.le_refl _), Nat.sub_self]
      rfl
    · cases e2
  · rcases at_ i _ e with ⟨_, _, e2⟩ | ⟨_, e2⟩ | e2 <;> cases e2
  · rcases at_ i _ e1 with ⟨_, _, e2⟩ | ⟨_, e2⟩ | e2 <;> cases e2
  · rcases at_ i _ e with ⟨_, _, e2⟩ | ⟨_, e2⟩ | e2 <;> cases e2
  · obtain ⟨o, c, x, y, e, _⟩ := kd
    rcases at_ i _ e with ⟨_, _, e2⟩ | ⟨_, e2⟩ | e2 <;> cases e2
  · obtain ⟨o, c, x, y, e, _⟩ := kd
    rcases at_ i _ e with ⟨_, _, e2⟩ | ⟨_, e2⟩ | e2 <;> cases e2
theorem fn_okV {P : Program} {w : World} {K : PySem.W.Frag} {mg : Str → Option Value} {base : Heap} {x : Str} {st : Stmt} {f : Addr} {fd : FuncData} {N ps : List Str} {k : Nat} (n m : Nat) (body : List Sl → Option Fl) (F : Fun K x x st f fd) (S : FnScope N ps (defScope st)) (hn : ps.length = n + 1) (hm : N.length - ps.length = m)
    (hb : ∀ (cdv : Value) (A : Around) (outer : List Env) (s : Shared) (H : Hp) (E : XK), Fit k (cxOf (CXR P w) P w K mg base N x (defScope st) f cdv A outer s H E) E → DSs (cxOf (CXR P w) P w K mg base N x (defScope st) f cdv A outer s H E) E (defBody st) body) :
    FnOk P w K mg base (CXR P w) (k + 1) f fd ps (spV K n (fnV n m body)) := by
  subst hm
  refine okX F S (fun vs H Q E h => ?_) (fun cdv A outer s H vs Q E hr h => ?_)
  · obtain ⟨_, ws, _, _, rfl, _, h, _⟩ := h
    rw [hn, List.length_append, h]; rfl
  · obtain ⟨C, ws, ds, o, rfl, hf, hl, dv, e, q⟩ := h
    obtain ⟨t, a, b⟩ := hb cdv A outer s H E ⟨passes_def, raises_def, PassesOwn.leaving, rfl, hr, S.nd⟩
    refine ⟨t, a, ?_⟩
    unfold fnV at e
    have hl2 : ds.length = n := by rw [← DVs.len dv]; exact hl
    rw [if_pos hl2] at e
    have L := loc_startV (N := N) (m := N.length - ps.length) hf dv (by rw [hl, hn])
    split at e
    · rename_i o' e1
      cases e
      exact b H _ H _ _ _ _ L e1 q
    · rename_i δ e1
      cases e
      exact b H _ H _ _ _ _ L e1 fun σ' H' S' L' => q .non H' L'.old .non
    · rename_i C e1
      cases e
      exact b H _ H _ _ _ _ L e1 q
    · cases e
section
variable {X : Cx} {E : XK} {K : PySem.W.Frag}
def fFn (C : Ex) (_ : List Sl) : M Rz := okM (.exc C)
theorem de_fn (C : Ex) {x : Str} {pos : Pos} (hm : X.mg x = some (.ref (ecx C))) (hf : isFn C = true := by rfl) (hg : Gl X x := by rfl) (hdb : (x == ("__debug__" : Str)) = false := by decide) : DE X E (.Name x pos) (fFn C) := by
  refine ⟨_, pe_glob (v := .ref (ecx C)) hg hm rfl hdb, fun H0 σ H δ S Q r L h q => ?_⟩
  cases h
  exact q _ H S .refl ⟨ecx C, rfl, .inr ⟨hf, rfl⟩⟩
def vsOf : List Rz → Option (List PyData × Ex)
  | [] => none
  | [.exc C] => if isFn C = true then some ([], C) else none
  | x :: xs => match x.d?, vsOf xs with
    | some d, some (ds, C) => some (d :: ds, C)
    | _, _ => none
theorem vsOf_ok {Hs H : Hp} {S : Addr → Bool} : ∀ {vs : List V} {zs : List Rz} {ds : List PyData} {C : Ex}, RVs K Hs H S vs zs → vsOf zs = some (ds, C) → ∃ ws, vs = ws ++ [.ref (ecx C)] ∧ isFn C = true ∧ DVs K H ws ds
  | _, [], _, _, .nil, h => by cases h
  | _, x :: xs, ds, C, .cons r t, h => by
    unfold vsOf at h
    split at h
    · rename_i heq; cases heq
    · rename_i C' heq
      cases heq
      split at h
      · rename_i hf
        cases h
        obtain ⟨ea, rfl, z⟩ := r
        cases t
        rcases z with ⟨z, _⟩ | ⟨_, rfl⟩
        · rw [hf] at z; cases z
        · exact ⟨[], rfl, hf, .nil⟩
      · cases h
    · rename_i heq
      cases heq
      split at h
      · rename_i d ds' C' e1 e2
        cases h
        obtain ⟨ws, rfl, hf, dv⟩ := vsOf_ok t e2
        exact ⟨_ :: ws, rfl, hf, .cons (r.full e1) dv⟩
      · cases h
def gFV (n : Nat) (f : Ex → List PyData → M Out) (zs : List Rz) : M Rz :=
  match vsOf zs with
  | some (ds, C) => if ds.length = n then bnd (f C ds) fun o => okM (outZ o) else none
  | none => none
theorem endF_of {n : Nat} {H0 : Hp} {σ : L2.St} {H : Hp} {δ : List Sl} {S : Addr → Bool} {vs : List V} {ds : List PyData} {m : M Out} {o : Res Out} {z : Res Rz} {Q : VK} (L : Loc K H0 σ H δ S) (hx : DVs K H vs ds) (hn : ds.length = n) (h1 : m = some o) (h : (bnd m fun o => okM (outZ o)) = some z) (q : EndE K E H S Q z) : EndF K E H Q o := by
  have dsz : ∀ (us : List PyData), dsOf (us.map Rz.dat) = some us := fun us => by
    induction us with
    | nil => rfl
    | cons u us ih => simp only [List.map_cons]; unfold dsOf; rw [ih]; rfl
  have := cd_fn (K := K) (E := E) (n := 0) (f := fun _ => m) H0 σ H δ S H [] [] z Q L .nil (by
    unfold gF
    show (if ([] : List PyData).length = 0 then (bnd m fun o => okM (outZ o)) else none) = some z
    rw [if_pos (List.length_nil (α := PyData))]; exact h) q
  obtain ⟨ds', o', _, _, e, qq⟩ := this
  have e' : m = some o' := e
  rw [h1] at e'
  cases e'
  exact qq
theorem cd_fnV {n : Nat} {f : Ex → List PyData → M Out} : CallD K E (fun vs H Q => spV K n f (vs ++ []) H Q E) (gFV n f) := by
  intro H0 σ H δ S Hs vs zs z Q L rs h q
  unfold gFV at h
  split at h
  · rename_i ds C e
    split at h
    · rename_i hn
      obtain ⟨ws, rfl, hf, dv⟩ := vsOf_ok rs e
      rw [List.append_nil]
      have : ∃ o, f C ds = some o := by
        rcases bnd_inv h with ⟨o, h1, _⟩ | ⟨C', h1, _⟩
        · exact ⟨_, h1⟩
        · exact ⟨_, h1⟩
      obtain ⟨o, h1⟩ := this
      exact ⟨C, ws, ds, o, rfl, hf, by rw [DVs.len dv]; exact hn, dv, h1, endF_of L dv hn h1 h q⟩
    · cases h
  · cases h
theorem de_calV {k n m : Nat} {x : Str} {ps : List Str} {f : Ex → List PyData → M Out} {p pos : Pos} {e : Expr} {es : List Expr} {fa : List Sl → M (List Rz)} (Z : Fit n X E) (C : Cal X.prog X.w X.K X.mg X.base (CXR X.prog X.w) k x ps (spV X.K m f)) (ha : DA X E (e :: es) fa) (hn : k ≤ n := by decide)
    (hg : Gl X x := by rfl) (hdb : (x == ("__debug__" : Str)) = false := by decide)
    (he : starEach (e :: es) X.env = (false, eval e X.env) :: starEach es X.env := by rfl) (hpl : (backTo pos (starEach es X.env)).any (·.1) = false := by rfl) :
    DE X E (.Call (.Name x p) (e :: es) [] pos) (fCall (gFV m f) fa) :=
  let ⟨_, a, b⟩ := ha; ⟨_, pe_calX C Z.rm Z.hx a hn hg hdb he hpl, rd_call cd_fnV b⟩
theorem op_isB : OpR X (compareOp .Is) (fun x y H Q => ∃ d, y = .bl d ∧ ((∃ c, x = .bl c ∧ Q (.bl (c == d)) H) ∨ (x = .non ∧ Q (.bl false) H))) := by
  intro pins s σ H x y v u Q I rx ry h
  obtain ⟨d, rfl, h⟩ := h
  cases ry
  rcases h with ⟨c, rfl, q⟩ | ⟨rfl, q⟩
  · cases rx
    exact PyProof.Rows.is_bool (fin_bl I q rfl)
  · cases rx
    exact PySem.wpAny_is_other rfl (fun z => nomatch z) (fin_bl I q rfl)
def gIsB (x y : Rz) : M Rz :=
  match x.d?, y.d? with
  | some (.bool c), some (.bool d) => okM (.dat (.bool (c == d)))
  | some .none, some (.bool _) => okM (.dat (.bool false))
  | _, _ => none
theorem od_isB : OpD K E (fun x y H Q => ∃ d, y = .bl d ∧ ((∃ c, x = .bl c ∧ Q (.bl (c == d)) H) ∨ (x = .non ∧ Q (.bl false) H))) gIsB := by
  intro H0 σ H δ S Ha Hb v w x y z Q L rx ry h q
  unfold gIsB at h
  split at h
  · rename_i c d e1 e2
    cases h
    have d1 := rx.full e1
    have d2 := ry.full e2
    cases d1
    cases d2
    exact ⟨d, rfl, .inl ⟨c, rfl, q _ H S .refl (.bl _)⟩⟩
  · rename_i d e1 e2
    cases h
    have d1 := rx.full e1
    have d2 := ry.full e2
    cases d1
    cases d2
    exact ⟨d, rfl, .inr ⟨rfl, q _ H S .refl (.bl _)⟩⟩
  · cases h
theorem ld_var {i : Nat} {x : Str} {pos : Pos} {pins : List (Addr × Obj)} {s : Shared} {σ : L2.St} {H : Hp} {v : V} {Q : Value → Shared → Prop} {E' : Value → Shared → Prop} (I : Inv X pins σ H s) (hN : X.N[i]? = some x) (hv : Vis X.env.scope x) (e : σ[i]? = some (some v)) (h : ∀ u, RelV v u → Q u s)
    (hd : (x == ("__debug__" : Str)) = false := by decide) (hcd : (x == ("__classdict__" : Str)) = false := by decide) : wpAny (model X.prog X.w) X.A (eval (.Name x pos) X.env) Q E' s := by
  obtain ⟨m, hn, hl⟩ := I.loc
  obtain ⟨u, r, l⟩ := hl i x v hN e hv
  have fin := h u r
  rcases l with ⟨hk, hm⟩ | ⟨hk, c, hc, hcell⟩
  · exact wpAny_Name (wpAny_loadName_local I.ok.kind hk hn hm fin) hd
  · rcases hk with hk | hk
    · exact wpAny_Name (wpAny_loadName_cell I.ok.kind hk hc hcell fin) hd
    · exact wpAny_Name (wpAny_loadName_free I.ok.kind hk hc hcell fin hcd) hd
def tCalL (i : Nat) (fa fb : Addr) (spA spB : Sp) (E : XK) (t : TA) : TE := fun σ H Q =>
  (σ[i]? = some (some (.ref fa)) ∧ t σ H fun vs H1 => spA (vs ++ []) H1 Q E) ∨ (σ[i]? = some (some (.ref fb)) ∧ t σ H fun vs H1 => spB (vs ++ []) H1 Q E)
theorem pe_calL (i : Nat) {n ka kb : Nat} {x xa xb : Str} {pa pb : List Str} {spA spB : Sp} {fa fb : Addr} {p pos : Pos} {e : Expr} {es : List Expr} {t : TA} (CA : Cal X.prog X.w X.K X.mg X.base (CXR X.prog X.w) ka xa pa spA) (CB : Cal X.prog X.w X.K X.mg X.base (CXR X.prog X.w) kb xb pb spB) (ma : X.mg xa = some (.ref fa)) (mb : X.mg xb = some (.ref fb))
    (hr : Room n X.A) (hx : Passes (CXR X.prog X.w) X E) (ha : PA X (e :: es) t) (hna : ka ≤ n) (hnb : kb ≤ n) (hN : X.N[i]? = some x) (hv : Vis X.env.scope x) (hd : (x == ("__debug__" : Str)) = false := by decide) (hcd : (x == ("__classdict__" : Str)) = false := by decide)
    (he : starEach (e :: es) X.env = (false, eval e X.env) :: starEach es X.env := by rfl) (hpl : (backTo pos (starEach es X.env)).any (·.1) = false := by rfl) :
    PE X (.Call (.Name x p) (e :: es) [] pos) (tCalL i fa fb spA spB E t) := by
  intro pins s σ H Q I h
  have one : ∀ {k : Nat} {y : Str} {ps : List Str} {sp : Sp} {ff : Addr}, Cal X.prog X.w X.K X.mg X.base (CXR X.prog X.w) k y ps sp → X.mg y = some (.ref ff) → k ≤ n → σ[i]? = some (some (.ref ff)) → (t σ H fun vs H1 => sp (vs ++ []) H1 Q E) →
      wpAny (model X.prog X.w) X.A (eval (.Call (.Name x p) (e :: es) [] pos) X.env) (EP X pins σ Q) X.xe s := fun {k y ps sp ff} C m hn e1 h => by
    obtain ⟨f, fd, F, b, kp, m'⟩ := C.ex
    rw [m] at m'; cases m'
    refine wpAny_Call_Name_kw (ld_var I hN hv e1 (fun u r => ?_) hd hcd)
    cases r
    refine PySem.W.callWith_K (h₀ := X.base) I.ok.mod.kin kp (thn (ha pos pins s σ H _ I h) fun us s1 ⟨vs, H1, I1, r, q⟩ => ⟨I1.kIn, ?_⟩) he hpl
    exact run_fn F (hr.mono hn) b .nil hx I1 r q
  rcases h with ⟨e1, h⟩ | ⟨e1, h⟩
  · exact one CA ma hna e1 h
  · exact one CB mb hnb e1 h
def fCalL (i m : Nat) (FA FB : List PyData → M Out) (fa : List Sl → M (List Rz)) (δ : List Sl) : M Rz :=
  match δ[i]? with
  | some (.exc .fnA) => bnd (fa δ) (gF m FA)
  | some (.exc .fnB) => bnd (fa δ) (gF m FB)
  | _ => none
theorem de_calL (i : Nat) {n ka kb m : Nat} {x xa xb : Str} {pa pb : List Str} {FA FB : List PyData → M Out} {p pos : Pos} {e : Expr} {es : List Expr} {fa : List Sl → M (List Rz)} (Z : Fit n X E) (CA : Cal X.prog X.w X.K X.mg X.base (CXR X.prog X.w) ka xa pa (spD X.K m FA)) (CB : Cal X.prog X.w X.K X.mg X.base (CXR X.prog X.w) kb xb pb (spD X.K m FB))
    (ma : X.mg xa = some (.ref (ecx .fnA))) (mb : X.mg xb = some (.ref (ecx .fnB))) (ha : DA X E (e :: es) fa) (hna : ka ≤ n := by decide) (hnb : kb ≤ n := by decide) (hN : X.N[i]? = some x := by rfl) (hv : Vis X.env.scope x := by first | exact Or.inl rfl | exact Or.inr (Or.inl rfl) | exact Or.inr (Or.inr rfl))
    (hd : (x == ("__debug__" : Str)) = false := by decide) (hcd : (x == ("__classdict__" : Str)) = false := by decide) (he : starEach (e :: es) X.env = (false, eval e X.env) :: starEach es X.env := by rfl) (hpl : (backTo pos (starEach es X.env)).any (·.1) = false := by rfl) :
    DE X E (.Call (.Name x p) (e :: es) [] pos) (fCalL i m FA FB fa) := by
  obtain ⟨t, a, b⟩ := ha
  refine ⟨_, pe_calL i CA CB ma mb Z.rm Z.hx a hna hnb hN hv hd hcd he hpl, fun H0 σ H δ S Q r L h q => ?_⟩
  unfold fCalL at h
  split at h
  · rename_i ei
    obtain ⟨ea, e1, z⟩ := L.exc i _ ei
    rcases z with ⟨z, _⟩ | ⟨_, rfl⟩
    · cases z
    · exact .inl ⟨e1, rd_call cd_fn b H0 σ H δ S Q r L h q⟩
  · rename_i ei
    obtain ⟨ea, e1, z⟩ := L.exc i _ ei
    rcases z with ⟨z, _⟩ | ⟨_, rfl⟩
    · cases z
    · exact .inr ⟨e1, rd_call cd_fn b H0 σ H δ S Q r L h q⟩
  · cases h
def fPopIx (i k : Nat) (j : Int) (δ : List Sl) : Option Fl := fMut k (fun ds => match ds.getLast? with
  | some (.tuple es) => (match atI es j with | some d => some (.next ((δ.set k (.own ds.dropLast)).set i (.dat d))) | none => none)
  | _ => none) δ
theorem ds_popIx (i k : Nat) {j : Int} {jj : Nat} {x l : Str} {npos apos cpos ipos spos pos pos' : Pos} (nd : X.N.Nodup) (hN : X.N[k]? = some l := by rfl) (hv : Vis X.env.scope l := by first | exact Or.inl rfl | exact Or.inr (Or.inl rfl) | exact Or.inr (Or.inr rfl)) (hd : (l == ("__debug__" : Str)) = false := by decide) (hcd : (l == ("__classdict__" : Str)) = false := by decide)
    (hbase : attributeBase (.Name l npos) "pop" X.env (eval (.Name l npos) X.env) = eval (.Name l npos) X.env := by rfl) (hline : (apos.endLine == cpos.line) = true := by rfl)
    (hi : X.N[i]? = some x := by rfl) (hx : L2.Loc X.env.scope x := by first | exact Or.inl rfl | exact Or.inr rfl) (hs : swapsWith (.Subscript (.Call (.Attribute (.Name l npos) "pop" apos) [] [] cpos) (.Constant (.int j) jj ipos) spos) (some (.Name x pos')) pos.line X.env = pure false := by rfl) (hf : X.fn x = true ∨ X.env.scope.names.lookup x = some .local := by first | exact .inl rfl | exact .inr rfl) :
    DS X E (.Assign [.Name x pos'] (.Subscript (.Call (.Attribute (.Name l npos) "pop" apos) [] [] cpos) (.Constant (.int j) jj ipos) spos) pos) (fPopIx i k j) := by
  refine ⟨_, ps_set nd hi hx (pe_ix ix_seq (pe_bm0 PySem.F.plainAttrs_list PySem.F.slot_list_pop PySem.F.type_list_pop mt_pop (pe_var hN hv hd hcd) hbase hline) pe_int (fun _ _ => rfl)) hs hf, fun H0 σ H δ S D fl L h q => ?_⟩
  obtain ⟨ds, e2, h⟩ := fMut_inv h
  obtain ⟨c, xs, c1, c2, c3, c4⟩ := L.own k ds e2
  split at h
  · rename_i es ed
    split at h
    · rename_i d edj
      cases h
      have hl := DVs.len c4
      have hne : ds ≠ [] := by intro z; rw [z] at ed; cases ed
      have hpos : 0 < xs.length := by rw [hl]; exact List.length_pos_iff.mpr hne
      have hd' : ds[xs.length - 1]? = some (.tuple es) := by rw [List.getLast?_eq_getElem?] at ed; rw [hl]; exact ed
      obtain ⟨v, ev, dv⟩ := DVs.get c4 hd'
      refine ⟨_, c1, .inl ⟨rfl, xs, SqL.of c3⟩, c, xs, v, rfl, rfl, c3, ev, ?_⟩
      have L1 := L.mut (xs' := xs.dropLast) e2 c1 (DVs.dropLast c4)
      have dv1 : DV X.K (hid (upd H c (.lst xs.dropLast)) S) v (.tuple es) := by rw [hid_mut c2]; exact dv
      cases dv1 with
      | tup hsq hx' =>
        obtain ⟨u, eu, du⟩ := DVs.atI hx' edj
        refine .inr (.inl ⟨_, _, j, u, rfl, rfl, sqT_same hid_up hsq, eu, ?_⟩)
        exact q _ _ S (L1.put (fun _ z => nomatch z) (fun d' e => by cases e; exact ⟨u, rfl, du⟩) (fun _ z => nomatch z))
    · cases h
  · cases h
def lcN3 (fe : List Sl → M Rz) (δ : List Sl) : List PyData → Option (List PyData)
  | [] => some []
  | .tuple [d1, d2, d3] :: r => (match fe (.dat d1 :: .dat d2 :: .dat d3 :: δ) with
      | some (.ok z) => (match datOf z, lcN3 fe δ r with
        | some e, some es => some (e :: es)
        | _, _ => none)
      | _ => none)
  | _ => none
def fLC3 (fi : List Sl → M (List PyData)) (fe : List Sl → M Rz) (δ : List Sl) : M Rz := bnd (fi δ) fun items => if items.length < sizeLine then (match lcN3 fe δ items with | some ds => okM (.new ds) | none => none) else none
theorem lcN3_cons {fe : List Sl → M Rz} {δ : List Sl} {d : PyData} {r out : List PyData} (h : lcN3 fe δ (d :: r) = some out) : ∃ d1 d2 d3 z e es, d = .tuple [d1, d2, d3] ∧ fe (.dat d1 :: .dat d2 :: .dat d3 :: δ) = some (.ok z) ∧ datOf z = some e ∧ lcN3 fe δ r = some es ∧ out = e :: es := by
  unfold lcN3 at h
  split at h
  · rename_i heq
    cases heq
  · rename_i d1 d2 d3 r' heq
    cases heq
    split at h
    · rename_i z ez
      split at h
      · rename_i e es e1 e2
        cases h
        exact ⟨_, _, _, z, e, es, rfl, ez, e1, e2, rfl⟩
      · cases h
    · cases h
  · cases h
theorem len_lc3 {fe : List Sl → M Rz} {δ : List Sl} : ∀ {items ds : List PyData}, lcN3 fe δ items = some ds → ds.length = items.length
  | [], ds, h => by
    unfold lcN3 at h
    cases h; rfl
  | d :: r, ds, h => by
    obtain ⟨d1, d2, d3, z, e, es, rfl, _, _, e2, rfl⟩ := lcN3_cons h
    rw [List.length_cons, List.length_cons, len_lc3 e2]
theorem rd_lc3 {wi : TI} {fi : List Sl → M (List PyData)} {fe : List Sl → M Rz} (i2 : RdIc K E wi fi) : RdE K E (tLC3 K wi (tDT K E0 fTrue) (tD K E0 fe)) (fLC3 fi fe) := by
  intro H0 σ H δ S Q z L h q
  rcases bnd_inv h with ⟨items, h1, h⟩ | ⟨C, h1, rfl⟩
  · refine i2 H0 σ H δ S _ _ L h1 fun J H1 S1 g1 it => ?_
    split at h
    · rename_i hsz
      split at h
      · rename_i total etot
        cases h
        intro acc hacc
        have L1 := L.ext g1
        have ne : ∀ (j : Nat) (es : List PyData), δ[j]? = some (Sl.own es) → σ[j]? ≠ some (some (V.ref acc)) := fun j es e c => by
          obtain ⟨b, e1, e2⟩ := L1.owned j es e
          rw [c] at e1; cases e1
          exact e2 hacc
        have tl := len_lc3 etot
        refine ⟨fun i m xs H => m = items.length - i ∧ i ≤ items.length ∧ ∃ S es rest, Loc K (hid H1 S1) σ H δ S ∧ S acc = true ∧ H acc = some (.lst xs) ∧ DVs K (hid H S) xs es ∧ lcN3 fe δ (items.drop i) = some rest ∧ es ++ rest = total ∧ Ext H1 S1 H S,
          ⟨items.length, by simp, Nat.zero_le _, ins S1 acc, [], total, ?_, ins_same, upd_same, .nil, etot, rfl, Ext.ins hacc⟩, ?_⟩
        · have := (L1.ground).ext (Ext.ins (xs := []) hacc)
          exact this
        · rintro i m xs H2 ⟨rfl, hi, S2, es, rest, L2, sa, ha, hx, hr, htot, g2⟩
          refine ⟨ha, ?_⟩
          by_cases hlt : i < items.length
          · have ei : items[i]? = some items[i] := List.getElem?_eq_getElem hlt
            rw [List.drop_eq_getElem_cons hlt] at hr
            obtain ⟨d1, d2, d3, zz, e, er, hd, ez, e1, e2, rfl⟩ := lcN3_cons hr
            rw [hd] at ei
            refine .inr ⟨it.go i H2 g2.up hlt, fun y H' hy => ?_⟩
            obtain ⟨rfl, dy⟩ := it.yld i H2 y H' _ g2.up ei hy
            have dy2 := DV.same L2.base dy
            cases dy2 with
            | tup hs hxs =>
              rename_i ap xsp
              cases hxs with
              | cons x1 hxs =>
                cases hxs with
                | cons x2 hxs =>
                  cases hxs with
                  | cons x3 hxs =>
                    cases hxs
                    have Lc := ((L2.cons x3).cons x2).cons x1
                    refine ⟨_, _, _, _, rfl, sqT_same hid_up hs, ?_⟩
                    refine ⟨_, _, S2, _, Lc, rfl, fun H3 S3 g3 => ?_⟩
                    refine iteT ?_
                    refine ⟨_, _, S3, _, Lc.ext g3, ez, fun v H4 S4 g4 rv => ?_⟩
                    have L4 := (L2.ext g3).ext g4
                    have xe4 := (g2.trans g3).trans g4
                    have sa4 : S4 acc = true := g4.sub _ (g3.sub _ sa)
                    have lx : xs.length < sizeLine := by
                      rw [DVs.len hx]
                      have : es.length + (er.length + 1) = total.length := by rw [← htot, List.length_append, List.length_cons]
                      omega
                    refine ⟨g4.up _ _ (g3.up _ _ ha), lx, items.length - (i + 1), by omega, rfl, hlt, S4, es ++ [e], er, L4.mutX sa4 ne (fun j k => L1.kids xe4 j acc k hacc), sa4, upd_same, ?_, e2, by rw [List.append_assoc]; exact htot, ?_⟩
                    · rw [hid_mut sa4]
                      exact DVs.append (.cons (datOf_ok ((Lc.ext g3).ext g4) rv e1) .nil) (DVs.same g4.hd (DVs.same g3.hd hx))
                    · refine ⟨fun b o e => ?_, by rw [hid_mut sa4]; exact xe4.hd, xe4.sub, fun b hb => ?_⟩
                      · have : b ≠ acc := by intro z; subst z; rw [hacc] at e; cases e
                        rw [upd_ne this]; exact xe4.up b o e
                      · rcases xe4.new b hb with z | ⟨z, w⟩
                        · exact .inl z
                        · refine .inr ⟨z, ?_⟩
                          by_cases c : b = acc
                          · subst c; exact ⟨_, upd_same⟩
                          · rw [upd_ne c]; exact w
          · have e : i = items.length := by omega
            subst e
            rw [List.drop_length] at hr
            cases hr
            rw [List.append_nil] at htot
            subst htot
            refine .inl ⟨it.stop _ H2 g2.up (Nat.le_refl _), q _ H2 S2 (g1.trans g2) ⟨acc, xs, rfl, sa, g1.up.free hacc, ha, hx⟩⟩
      · cases h
    · cases h
  · exact i2 H0 σ H δ S _ _ L h1 q
def compChk3 (N : List Str) (x x2 x3 : Str) (sc dsc : Scope) : Bool := compChk2 N x x2 sc dsc && decide (sc.names.lookup x3 = some .local) && !N.contains x3 && decide (x ≠ x3) && decide (x2 ≠ x3)
theorem de_lc3 {n : Nat} {x x2 x3 : Str} {scope : Scope} {elt iter : Expr} {kk : Nat} {px py pz pt pos : Pos} {fi : List Sl → M (List PyData)} {fe : List Sl → M Rz} (Z : Fit n X E) (hcell : ∀ y, X.env.scope.names.lookup y = some .cell → ∃ c, X.env.cells.lookup y = some c) (chk : compChk3 X.N x x2 x3 scope X.env.scope = true)
    (hi : DIc X E (.Tuple [.Name x px, .Name x2 py, .Name x3 pz] kk pt) iter fi) (he : ∀ cl C s0 H0 fp, Fit n (cxC3 X x x2 x3 scope cl C s0 H0 fp) E0 → DE (cxC3 X x x2 x3 scope cl C s0 H0 fp) E0 elt fe)
    (hf : ∀ v, foldedSetIterable iter X.env v = pure v := by intro _; rfl) : DE X E (.ListComp elt [⟨.Tuple [.Name x px, .Name x2 py, .Name x3 pz] kk pt, iter, [], 0⟩] scope pos) (fLC3 fi fe) := by
  unfold compChk3 compChk2 at chk
  simp only [Bool.and_eq_true, decide_eq_true_eq, Bool.not_eq_true'] at chk
  obtain ⟨⟨⟨⟨⟨⟨⟨c0, c1⟩, c2⟩, c3⟩, c4⟩, c5⟩, c6⟩, c7⟩ := chk
  obtain ⟨cl, ok1⟩ := comp_ok hcell c0
  have nm : ∀ y, X.N.contains y = false → y ∉ X.N := fun y h hm => by
    have : X.N.contains y = true := List.contains_iff_mem.mpr hm
    rw [this] at h; cases h
  have ok : CompOk3 X x x2 x3 scope cl := ⟨ok1, c1, c4, nm _ c2, nm _ c5, c3, c6, c7⟩
  obtain ⟨wi, i1, i2⟩ := hi
  have fit : ∀ C s0 H0 fp, Fit n (cxC3 X x x2 x3 scope cl C s0 H0 fp) E0 := fun C s0 H0 fp => by
    refine ⟨fun pins σ H s e s' I h => ?_, fun pins σ H s h' ea C' vs I hm hE => hE.elim, PassesOwn.never, Z.cm, Z.rm, ok.nodup Z.nd⟩
    obtain ⟨_, _, _, _, _, _, _, _, _, _, _, _, _, _, z⟩ := h
    exact z.elim
  exact ⟨_, pe_lc3 (tt := tDT X.K E0 fTrue) (te := tD X.K E0 fe) ok Z.nd Z.cm i1 (fun C s0 H0 fp => difs_nil) (fun C s0 H0 fp => (he cl C s0 H0 fp (fit C s0 H0 fp)).pe) hf, rd_lc3 i2⟩
end
end D3
namespace D3
open PySem L2
theorem ev_popIx {δ δ' : List Sl} {i k : Nat} {j : Int} {ds es : List PyData} {d : PyData} {g : List Sl → Option Fl} {r : Option Fl} (hk : δ[k]? = some (.own ds)) (hd : ds.getLast? = some (.tuple es)) (he : atI es j = some d) (h3 : (δ.set k (.own ds.dropLast)).set i (.dat d) = δ') (h4 : g δ' = r) : fSeq (fPopIx i k j) g δ = r := by
  unfold fSeq fPopIx fMut; rw [hk]; dsimp only; rw [hd]; dsimp only; rw [he]; dsimp only; rw [h3]; exact h4
theorem ev_calL_A {i m : Nat} {FA FB : List PyData → M Out} {fa : List Sl → M (List Rz)} {δ : List Sl} (h : δ[i]? = some (.exc .fnA)) : fCalL i m FA FB fa δ = fCall (gF m FA) fa δ := by unfold fCalL; rw [h]; rfl
theorem ev_calL_B {i m : Nat} {FA FB : List PyData → M Out} {fa : List Sl → M (List Rz)} {δ : List Sl} (h : δ[i]? = some (.exc .fnB)) : fCalL i m FA FB fa δ = fCall (gF m FB) fa δ := by unfold fCalL; rw [h]; rfl
end D3
namespace D3
open PySem PySem.Spec PyProof.Rows L2 L3
section
variable {δ δ' : List Sl}
theorem ev_f2 {g : Rz → Rz → M Rz} {fa fb : List Sl → M Rz} {x y z : Rz} (h1 : fa δ = okM x) (h2 : fb δ = okM y) (h3 : g x y = okM z) : f2 g fa fb δ = okM z := by unfold f2; rw [h1, bnd_okM, h2, bnd_okM, h3]
theorem ev_fB {f : List Sl → M Rz} {x : Rz} {b : Bool} (h1 : f δ = okM x) (h2 : boolOf x = okM b) : fB f δ = okM b := by unfold fB; rw [h1, bnd_okM, h2]
theorem ev_fV {f : List Sl → M Bool} {b : Bool} (h1 : f δ = okM b) : fV f δ = okM (.dat (.bool b)) := by unfold fV; rw [h1, bnd_okM]
theorem ev_not {f : List Sl → M Bool} {b : Bool} (h1 : f δ = okM b) : fNot f δ = okM (!b) := by unfold fNot; rw [h1, bnd_okM]
theorem ev_notT {f : List Sl → M Bool} (h1 : f δ = okM false) : fNot f δ = okM true := ev_not h1
theorem ev_notF {f : List Sl → M Bool} (h1 : f δ = okM true) : fNot f δ = okM false := ev_not h1
theorem ev_andT {f g : List Sl → M Bool} {b : Bool} (h1 : f δ = okM true) (h2 : g δ = okM b) : fAnd f g δ = okM b := by unfold fAnd; rw [h1, bnd_okM, if_pos rfl, h2]
theorem ev_andF {f g : List Sl → M Bool} (h1 : f δ = okM false) : fAnd f g δ = okM false := by unfold fAnd; rw [h1, bnd_okM]; rfl
theorem ev_or {f g : List Sl → M Bool} {a b : Bool} (h1 : f δ = okM a) (h2 : a = false → g δ = okM b) : fOr f g δ = okM (a || b) := by
  unfold fOr; rw [h1, bnd_okM]
  cases a with
  | true => rfl
  | false => rw [if_neg Bool.false_ne_true, h2 rfl]; rfl
theorem ev_orF {f g : List Sl → M Bool} {b : Bool} (h1 : f δ = okM false) (h2 : g δ = okM b) : fOr f g δ = okM b := by unfold fOr; rw [h1, bnd_okM, if_neg Bool.false_ne_true, h2]
theorem ev_fU {g : Rz → M Rz} {f : List Sl → M Rz} {x z : Rz} (h1 : f δ = okM x) (h2 : g x = okM z) : fU g f δ = okM z := by unfold fU; rw [h1, bnd_okM, h2]
theorem ecz {f : List Sl → M Rz} {g : List Sl → M (List Rz)} {x : Rz} {xs : List Rz} (h1 : f δ = okM x) (h2 : g δ = okM xs) : fCons f g δ = okM (x :: xs) := by unfold fCons; rw [h1, bnd_okM, h2, bnd_okM]
theorem ev_call {g : List Rz → M Rz} {fa : List Sl → M (List Rz)} {zs : List Rz} {z : Rz} (h1 : fa δ = okM zs) (h2 : g zs = okM z) : fCall g fa δ = okM z := by unfold fCall; rw [h1, bnd_okM, h2]
theorem ev_gF {n : Nat} {F : List PyData → M Out} {zs : List Rz} {ds : List PyData} {o : Out} {z : Rz} (h0 : dsOf zs = some ds) (h1 : ds.length = n) (h2 : F ds = okM o) (h3 : outZ o = z) : gF n F zs = okM z := by
  unfold gF; rw [h0]; dsimp only; rw [if_pos h1, h2, bnd_okM, h3]
theorem ev_gFX {n : Nat} {F : List PyData → M Out} {zs : List Rz} {ds : List PyData} {C : Ex} (h0 : dsOf zs = some ds) (h1 : ds.length = n) (h2 : F ds = some (.err C)) : gF n F zs = some (.err C) := by
  unfold gF; rw [h0]; dsimp only; rw [if_pos h1, h2]; rfl
theorem ev_seq {f g : List Sl → Option Fl} {r : Option Fl} (h1 : f δ = some (.next δ')) (h2 : g δ' = r) : fSeq f g δ = r := by unfold fSeq; rw [h1]; exact h2
theorem ev_seqR {f g : List Sl → Option Fl} {o : Out} (h1 : f δ = some (.ret o)) : fSeq f g δ = some (.ret o) := by unfold fSeq; rw [h1]
theorem ev_seqX {f g : List Sl → Option Fl} {C : Ex} (h1 : f δ = some (.exc C)) : fSeq f g δ = some (.exc C) := by unfold fSeq; rw [h1]
theorem ev_set {i : Nat} {f : List Sl → M Rz} {x : Rz} {s : Sl} (h : f δ = okM x) (h2 : slotOf x = some s) (h3 : δ.set i s = δ') : fSet i f δ = some (.next δ') := by unfold fSet; rw [h]; show (match slotOf x with | some s => some (Fl.next (δ.set i s)) | none => none) = _; rw [h2]; dsimp only; rw [h3]
theorem ev_sset {i : Nat} {f : List Sl → M Rz} {g : List Sl → Option Fl} {x : Rz} {s : Sl} {r : Option Fl} (h : f δ = okM x) (h2 : slotOf x = some s) (h3 : δ.set i s = δ') (h4 : g δ' = r) : fSeq (fSet i f) g δ = r := ev_seq (ev_set h h2 h3) h4
theorem ev_sif {c : List Sl → M Bool} {f k g : List Sl → Option Fl} {b : Bool} {r : Option Fl} (hc : c δ = okM b) (h1 : b = true → fSeq f g δ = r) (h2 : b = false → fSeq k g δ = r) : fSeq (fIfS c f k) g δ = r := by
  unfold fSeq fIfS at *
  rw [hc]
  cases b with
  | true => exact h1 rfl
  | false => exact h2 rfl
theorem ev_sifT {c : List Sl → M Bool} {f k g : List Sl → Option Fl} {r : Option Fl} (hc : c δ = okM true) (h1 : fSeq f g δ = r) : fSeq (fIfS c f k) g δ = r := ev_sif hc (fun _ => h1) (fun z => nomatch z)
theorem ev_sifF {c : List Sl → M Bool} {f k g : List Sl → Option Fl} {r : Option Fl} (hc : c δ = okM false) (h1 : fSeq k g δ = r) : fSeq (fIfS c f k) g δ = r := ev_sif hc (fun z => nomatch z) (fun _ => h1)
theorem ev_if {c : List Sl → M Bool} {f k : List Sl → Option Fl} {b : Bool} {r : Option Fl} (hc : c δ = okM b) (h1 : b = true → f δ = r) (h2 : b = false → k δ = r) : fIfS c f k δ = r := by
  unfold fIfS; rw [hc]
  cases b with
  | true => exact h1 rfl
  | false => exact h2 rfl
theorem ev_iT {c : List Sl → M Bool} {f k : List Sl → Option Fl} {r : Option Fl} (hc : c δ = okM true) (h1 : f δ = r) : fIfS c f k δ = r := ev_if hc (fun _ => h1) (fun z => nomatch z)
theorem ev_iF {c : List Sl → M Bool} {f k : List Sl → Option Fl} {r : Option Fl} (hc : c δ = okM false) (h1 : k δ = r) : fIfS c f k δ = r := ev_if hc (fun z => nomatch z) (fun _ => h1)
theorem ev_snext {g : List Sl → Option Fl} {r : Option Fl} (h : g δ = r) : fSeq fNext g δ = r := h
theorem ev_ret {f : List Sl → M Rz} {x : Rz} {o : Out} (h : f δ = okM x) (h2 : outOf x = some o) : fRet f δ = some (.ret o) := by unfold fRet; rw [h]; show (match outOf x with | some o => some (Fl.ret o) | none => none) = _; rw [h2]
theorem ev_sret {f : List Sl → M Rz} {g : List Sl → Option Fl} {x : Rz} {o : Out} (h : f δ = okM x) (h2 : outOf x = some o) : fSeq (fRet f) g δ = some (.ret o) := ev_seqR (ev_ret h h2)
theorem ev_asg {g : PyData → List Sl → Option (List Sl)} {f : List Sl → M Rz} {x : Rz} {d : PyData} (h : f δ = okM x) (h2 : datOf x = some d) (h3 : g d δ = some δ') : fAsg g f δ = some (.next δ') := by
  unfold fAsg; rw [h]; show (match datOf x with | some d => (match g d δ with | some δ' => some (Fl.next δ') | none => none) | none => none) = _; rw [h2]; dsimp only; rw [h3]
theorem ev_par {i j : Nat} {fa : List Sl → M (List Rz)} {x y : Rz} {d e : PyData} (h : fa δ = okM [x, y]) (h1 : datOf x = some d) (h2 : datOf y = some e) (h3 : (δ.set i (.dat d)).set j (.dat e) = δ') : fPar i j fa δ = some (.next δ') := by
  unfold fPar; rw [h]; show (match datOf x, datOf y with | some d, some e => some (Fl.next ((δ.set i (.dat d)).set j (.dat e))) | _, _ => none) = _; rw [h1, h2]; dsimp only; rw [h3]
theorem ev_app {k : Nat} {f : List Sl → M Rz} {x : Rz} {d : PyData} {ds : List PyData} (hk : δ[k]? = some (.own ds)) (h : f δ = okM x) (h2 : datOf x = some d) (hl : ds.length < sizeLine) (h3 : δ.set k (.own (ds ++ [d])) = δ') : fApp k f δ = some (.next δ') := by
  unfold fApp fMut; rw [hk]; dsimp only; rw [h]; show (match datOf x with | some d => if ds.length < sizeLine then some (Fl.next (δ.set k (.own (ds ++ [d])))) else none | none => none) = _; rw [h2]; dsimp only; rw [if_pos hl, h3]
theorem ev_pop {k : Nat} {ds : List PyData} (hk : δ[k]? = some (.own ds)) (hn : ds ≠ []) (h3 : δ.set k (.own ds.dropLast) = δ') : fPop k δ = some (.next δ') := by
  unfold fPop fMut; rw [hk]; dsimp only; rw [if_neg hn, h3]
theorem ev_put {k : Nat} {f fi : List Sl → M Rz} {x : Rz} {d : PyData} {ds : List PyData} {y : Rz} {i : Int} {j : Nat} (h : f δ = okM x) (hk : δ[k]? = some (.own ds)) (hi : fi δ = okM y) (h2 : datOf x = some d) (hy : y.d? = some (.int i)) (hj : ixN ds.length i = some j) (h3 : δ.set k (.own (ds.set j d)) = δ') : fPut k f fi δ = some (.next δ') := by
  unfold fPut; rw [h]; show fMut k _ δ = _; unfold fMut; rw [hk]; dsimp only; rw [hi]
  show (match datOf x, y.d? with | some d, some (.int i) => (match ixN ds.length i with | some j => some (Fl.next (δ.set k (.own (ds.set j d)))) | none => none) | _, _ => none) = _
  rw [h2, hy]; dsimp only; rw [hj]; dsimp only; rw [h3]
theorem ev_fn {n m : Nat} {f : List Sl → Option Fl} {ds : List PyData} {o : Out} (hl : ds.length = n) (h : f (ds.map Sl.dat ++ List.replicate m Sl.no) = some (.ret o)) : fnD n m f ds = okM o := by unfold fnD; rw [if_pos hl, h]; rfl
theorem ev_fnX {n m : Nat} {f : List Sl → Option Fl} {ds : List PyData} {C : Ex} (hl : ds.length = n) (h : f (ds.map Sl.dat ++ List.replicate m Sl.no) = some (.exc C)) : fnD n m f ds = some (.err C) := by unfold fnD; rw [if_pos hl, h]
theorem ev_for {fi : List Sl → M (List PyData)} {g : PyData → List Sl → Option (List Sl)} {b : List Sl → Option Fl} {items : List PyData} {r : Option Fl} (h1 : fi δ = okM items) (h2 : forN g b items δ = r) : fFor fi g b δ = r := by unfold fFor; rw [h1]; exact h2
theorem forN_inv {g : PyData → List Sl → Option (List Sl)} {b : List Sl → Option Fl} (P : Nat → List Sl → Prop) (items : List PyData) (h0 : P 0 δ)
    (hs : ∀ i d δ, items[i]? = some d → P i δ → ∃ δ1 δ2, g d δ = some δ1 ∧ (b δ1 = some (.next δ2) ∨ b δ1 = some (.cnt δ2)) ∧ P (i + 1) δ2) : ∃ δ', forN g b items δ = some (.next δ') ∧ P items.length δ' := by
  have key : ∀ (rest : List PyData) (i : Nat) (δ : List Sl), items.drop i = rest → i + rest.length = items.length → P i δ → ∃ δ', forN g b rest δ = some (.next δ') ∧ P items.length δ' := by
    intro rest
    induction rest with
    | nil => intro i δ _ hl p; exact ⟨δ, rfl, by simp at hl; rw [← hl]; exact p⟩
    | cons d r ih =>
      intro i δ hd hl p
      have hi : i < items.length := by simp at hl; omega
      rw [List.drop_eq_getElem_cons hi] at hd
      injection hd with hd1 hd2
      obtain ⟨δ1, δ2, e1, e2, p2⟩ := hs i d δ (by rw [List.getElem?_eq_getElem hi, hd1]) p
      obtain ⟨δ', e3, p3⟩ := ih (i + 1) δ2 hd2 (by simp at hl; omega) p2
      refine ⟨δ', ?_, p3⟩
      unfold forN
      rw [e1]
      dsimp only
      rcases e2 with e2 | e2 <;> (rw [e2]; exact e3)
  exact key items 0 δ (by simp) (by simp) h0
theorem whN_inv {c : List Sl → M Bool} {b : List Sl → Option Fl} (P : List Sl → Prop) (R : List Sl → Prop) (μ : List Sl → Nat) (hs : ∀ δ, P δ → (c δ = okM false ∧ R δ) ∨ (c δ = okM true ∧ ∃ δ', b δ = some (.next δ') ∧ P δ' ∧ μ δ' < μ δ)) :
    P δ → ∃ δ', fWh c b δ = some (.next δ') ∧ R δ' := by
  have key : ∀ (k : Nat) (δ : List Sl), μ δ < k → P δ → ∃ n δ', whN c b n δ = some (.next δ') ∧ R δ' := by
    intro k
    induction k with
    | zero => intro δ h; exact absurd h (by omega)
    | succ k ih =>
      intro δ h p
      rcases hs δ p with ⟨e, r⟩ | ⟨e, δ1, e1, p1, l⟩
      · exact ⟨1, δ, by unfold whN; rw [e]; rfl, r⟩
      · obtain ⟨n, δ', e2, r⟩ := ih δ1 (by omega) p1
        exact ⟨n + 1, δ', by unfold whN; rw [e]; unfold bS okM; dsimp only; rw [if_pos rfl, e1]; exact e2, r⟩
  intro p
  obtain ⟨n, δ', e, r⟩ := key (μ δ + 1) δ (by omega) p
  exact ⟨δ', @fWh_of ⟨fun _ => 0⟩ _ _ _ _ _ e, r⟩
end
theorem ev_rng1 {δ : List Sl} {fa : List Sl → M (List Rz)} {j : Int} {m : Nat} (h : fa δ = okM [.dat (.int j)]) (h1 : -(2 ^ 62) ≤ j) (h2 : j < 2 ^ 62) (hm : j.toNat = m) : fR rng1 fa δ = okM (rangeL 0 m) := by
  unfold fR; rw [h, bnd_okM]
  show (if -(2 ^ 62) ≤ j ∧ j < 2 ^ 62 then okM (rangeL 0 j.toNat) else none) = _
  rw [if_pos ⟨h1, h2⟩, hm]
theorem ev_rng2 {δ : List Sl} {fa : List Sl → M (List Rz)} {i j : Int} {m : Nat} (h : fa δ = okM [.dat (.int i), .dat (.int j)]) (h0 : -(2 ^ 62) ≤ i ∧ i < 2 ^ 62) (h1 : -(2 ^ 62) ≤ j) (h2 : j < 2 ^ 62) (hm : (j - i).toNat = m) : fR rng2 fa δ = okM (rangeL i m) := by
  unfold fR; rw [h, bnd_okM]
  show (if -(2 ^ 62) ≤ i ∧ i < 2 ^ 62 ∧ -(2 ^ 62) ≤ j ∧ j < 2 ^ 62 then okM (rangeL i (j - i).toNat) else none) = _
  rw [if_pos ⟨h0.1, h0.2, h1, h2⟩, hm]
theorem range_at {lo : Int} {m i : Nat} {d : PyData} (h : (rangeL lo m)[i]? = some d) : i < m ∧ d = .int (lo + (i : Int)) := by
  unfold rangeL at h
  rw [List.getElem?_map] at h
  have hi : i < m := by
    by_cases c : i < m
    · exact c
    · rw [List.getElem?_eq_none (by rw [List.length_range]; omega)] at h; cases h
  rw [List.getElem?_range hi] at h
  cases h
  exact ⟨hi, rfl⟩
theorem range_len (lo : Int) (m : Nat) : (rangeL lo m).length = m := by unfold rangeL; rw [List.length_map, List.length_range]
theorem ev_tryX {δ δ' : List Sl} {cs : Ex → Bool} {g : List Rz → M Rz} {fa : List Sl → M (List Rz)} {k : Rz → List Sl → Option (List Sl)} {j : Nat} {b : List Sl → Option Fl} {zs : List Rz} {C : Ex} (h1 : fa δ = okM zs) (h2 : g zs = some (.err C)) (hc : cs C = true) (h3 : b (δ.set j (.exc C)) = some (.next δ')) : fTry cs g fa k j b δ = some (.next (δ'.set j .no)) := by
  unfold fTry; rw [h1]; unfold okM; dsimp only; rw [h2]; dsimp only; rw [if_pos hc, h3]; rfl
theorem atD_nat {ds : List PyData} {i : Int} {j : Nat} {d : PyData} (hi : i = (j : Int)) (h : ds[j]? = some d) : L2.atI ds i = some d := by subst hi; exact L2.atI_nat h
theorem ix_tup {ds : List PyData} {i : Int} {j : Nat} {d : PyData} (hi : i = (j : Int)) (h : ds[j]? = some d) : gIx (.dat (.tuple ds)) (.dat (.int i)) = okM (.dat d) := by
  unfold gIx seqOf Rz.d?; dsimp only; rw [atD_nat hi h]; rfl
theorem ix_lst {ds : List PyData} {i : Int} {j : Nat} {d : PyData} (hi : i = (j : Int)) (h : ds[j]? = some d) : gIx (.dat (.list ds)) (.dat (.int i)) = okM (.dat d) := by
  unfold gIx seqOf Rz.d?; dsimp only; rw [atD_nat hi h]; rfl
theorem ix_var {ds : List PyData} {i : Int} {j : Nat} {d : PyData} (hi : i = (j : Int)) (h : ds[j]? = some d) : gIx (.var ds) (.dat (.int i)) = okM (.dat d) := by
  unfold gIx seqOf Rz.d?; dsimp only; rw [atD_nat hi h]; rfl
theorem ix_new {ds : List PyData} {i : Int} {j : Nat} {d : PyData} (hi : i = (j : Int)) (h : ds[j]? = some d) : gIx (.new ds) (.dat (.int i)) = okM (.dat d) := by
  unfold gIx seqOf Rz.d?; dsimp only; rw [atD_nat hi h]; rfl
theorem ix_t0 {p : PyData} {r : List PyData} : gIx (.dat (.tuple (p :: r))) (.dat (.int 0)) = okM (.dat p) := ix_tup (j := 0) rfl rfl
theorem ix_t1 {p q : PyData} {r : List PyData} : gIx (.dat (.tuple (p :: q :: r))) (.dat (.int 1)) = okM (.dat q) := ix_tup (j := 1) rfl rfl
theorem eqv_int (a b : Int) : PyData.eqv (.int a) (.int b) = decide (a = b) := by simp [PyData.eqv, Bool.beq_eq_decide_eq]
theorem gEq_int (a b : Int) : gEq false (.dat (.int a)) (.dat (.int b)) = okM (.dat (.bool (decide (a = b)))) := by
  have o : ∀ x : Int, okD (.int x) = true := fun _ => rfl
  simp only [gEq, Rz.d?, o, and_self, if_true, eqv_int]; rfl
theorem gNe_int (a b : Int) : gEq true (.dat (.int a)) (.dat (.int b)) = okM (.dat (.bool (!decide (a = b)))) := by
  have o : ∀ x : Int, okD (.int x) = true := fun _ => rfl
  simp only [gEq, Rz.d?, o, and_self, if_true, eqv_int]
theorem gMulI {i j : Int} (h : IntMulOk i j) : gI gMul (.dat (.int i)) (.dat (.int j)) = okM (.dat (.int (i * j))) := by unfold gI gMul Rz.d?; dsimp only; rw [if_pos h]
theorem gFdivI {i j : Int} (h : j ≠ 0) (h2 : j.natAbs < 2 ^ 9000) : gI gFdiv (.dat (.int i)) (.dat (.int j)) = okM (.dat (.int (i.fdiv j))) := by unfold gI gFdiv Rz.d?; dsimp only; rw [if_pos ⟨h, h2⟩]
theorem gModI {i j : Int} (h : j ≠ 0) : gI gMod (.dat (.int i)) (.dat (.int j)) = okM (.dat (.int (i.fmod j))) := by unfold gI gMod Rz.d?; dsimp only; rw [if_neg h]
theorem gModP {i j : Int} (h : 0 < j) : gI gMod (.dat (.int i)) (.dat (.int j)) = okM (.dat (.int (i % j))) := by
  rw [gModI (by omega), Int.fmod_eq_emod_of_nonneg _ (by omega)]
theorem gFdivP {i j : Int} (h : 0 < j) (h2 : j < 1073741824) : gI gFdiv (.dat (.int i)) (.dat (.int j)) = okM (.dat (.int (i / j))) := by
  rw [gFdivI (by omega) (Nat.lt_of_lt_of_le (m := 2 ^ 30) (by omega) (Nat.pow_le_pow_right (by decide) (by decide))), Int.fdiv_eq_ediv_of_nonneg _ (by omega)]
theorem gPowI {i j : Int} (h : CPow i j) : gI gPow (.dat (.int i)) (.dat (.int j)) = okM (.dat (.int (i ^ j.toNat))) := by unfold gI gPow Rz.d?; dsimp only; rw [if_pos h]
theorem mul_l {a b : Int} (h1 : -(2 ^ 64) < a) (h2 : a < 2 ^ 64) : IntMulOk a b := IntMulOk.of_left (intBits_le_64 h1 h2)
theorem mul_r {a b : Int} (h1 : -(2 ^ 64) < b) (h2 : b < 2 ^ 64) : IntMulOk a b := IntMulOk.of_right (intBits_le_64 h1 h2)
end D3
namespace Law
open PySem PySem.Spec PyProof.Rows L2 L3 D3
def top (i : Nat) : Stmt := PySem.Challenge.pw_neverbelow_k53_rows_moved_stretched_plai.main.body.getD i (.Pass ⟨0, 0, 0, 0⟩)
abbrev s_greatest_divisor : Stmt := top 14
abbrev s_number : Stmt := top 15
abbrev s_plus : Stmt := top 16
abbrev s_minus : Stmt := top 17
abbrev s_times : Stmt := top 18
abbrev s_over : Stmt := top 19
abbrev s_less : Stmt := top 20
abbrev s_sign : Stmt := top 21
abbrev s_curve_of : Stmt := top 24
abbrev s_number_at : Stmt := top 25
abbrev s_worth : Stmt := top 26
abbrev s_taken : Stmt := top 27
abbrev s_slope : Stmt := top 28
abbrev s_moved : Stmt := top 29
abbrev s_stretched : Stmt := top 30
abbrev s_check_pieces : Stmt := top 34
abbrev s_row_of : Stmt := top 35
abbrev s_row_worth : Stmt := top 36
abbrev s_smooth_at : Stmt := top 37
abbrev s_smoothness : Stmt := top 38
abbrev s_row_moved : Stmt := top 39
abbrev s_row_stretched : Stmt := top 40
abbrev s_plainest : Stmt := top 41
abbrev sL_cell_at : Stmt := top 43
abbrev sL_num : Stmt := top 44
abbrev sL_plus : Stmt := top 45
abbrev sL_times : Stmt := top 46
abbrev sL_worth_of : Stmt := top 48
abbrev sL_clean : Stmt := top 49
abbrev sL_sum : Stmt := top 50
abbrev sL_product : Stmt := top 51
abbrev sL_next : Stmt := top 52
abbrev sL_pieces : Stmt := top 53
abbrev sL_refused : Stmt := top 54
abbrev sL_led : Stmt := top 55
abbrev sL_plain : Stmt := top 56
abbrev s_law : Stmt := top 57
noncomputable def BL_clean : List Sl → Option Fl := (fSeq (fSet 1 (fCall (g1 listOf) (fCons (fVar 0) fNil)))
    (fSeq (fWh (fAnd (fB (f2 (gEq true) (fVar 1) (fCall gLst fNil))) (fB (f2 (gEq false) (f2 gIx (f2 gIx (fVar 1) (fU negOf (fC (.int 1)))) (fC (.int 0))) (fC (.int 0))))) (fPop 1))
    (fRet (fCall (g1 tupleOf) (fCons (fVar 1) fNil)))))
noncomputable def FL_clean : List PyData → M Out := fnD 1 1 BL_clean
noncomputable def BL_cell_at : List Sl → Option Fl := (fSeq (fIfS (fB (f2 (gI gLt) (fVar 1) (fCall (g1 lenOf) (fCons (fVar 0) fNil)))) (fRet (f2 gIx (fVar 0) (fVar 1))) fNext)
    (fSeq (fIfS (fB (f2 (gEq false) (fCall (g1 lenOf) (fCons (fVar 0) fNil)) (fC (.int 0)))) (fRet (f2 (gI gAdd) (f2 (gI gMul) (f2 (gI gMul) (fVar 1) (fVar 1)) (fC (.int 48271))) (f2 (gI gMul) (fC (.int 7)) (fVar 1)))) fNext)
    (fRet (f2 (gI gAdd) (f2 (gI gFdiv) (f2 gIx (fVar 0) (f2 (gI gMod) (fVar 1) (fCall (g1 lenOf) (fCons (fVar 0) fNil)))) (f2 (gI gAdd) (fC (.int 1)) (f2 (gI gFdiv) (fVar 1) (fCall (g1 lenOf) (fCons (fVar 0) fNil))))) (f2 (gI gMul) (f2 (gI gMul) (fVar 1) (fVar 1)) (fC (.int 7919)))))))
noncomputable def FL_cell_at : List PyData → M Out := fnD 2 0 BL_cell_at
noncomputable def BL_num : List Sl → Option Fl := (fSeq (fPar 2 3 (fCons (fCall (g1 absOf) (fCons (fVar 0) fNil)) (fCons (fCall (g1 absOf) (fCons (fVar 1) fNil)) fNil)))
    (fSeq (fWh (fB (f2 (gEq true) (fVar 3) (fC (.int 0)))) (fPar 2 3 (fCons (fVar 3) (fCons (f2 (gI gMod) (fVar 2) (fVar 3)) fNil))))
    (fSeq (fIfS (fB (f2 (gI gLt) (fVar 1) (fC (.int 0)))) (fSet 2 (f2 (gI gSub) (fC (.int 0)) (fVar 2))) fNext)
    (fRet (fCall gTup (fCons (f2 (gI gFdiv) (fVar 0) (fVar 2)) (fCons (f2 (gI gFdiv) (fVar 1) (fVar 2)) fNil)))))))
noncomputable def FL_num : List PyData → M Out := fnD 2 2 BL_num
noncomputable def BL_plus : List Sl → Option Fl := (fRet (fCall (gF 2 FL_num) (fCons (f2 (gI gAdd) (f2 (gI gMul) (f2 gIx (fVar 0) (fC (.int 0))) (f2 gIx (fVar 1) (fC (.int 1)))) (f2 (gI gMul) (f2 gIx (fVar 1) (fC (.int 0))) (f2 gIx (fVar 0) (fC (.int 1))))) (fCons (f2 (gI gMul) (f2 gIx (fVar 0) (fC (.int 1))) (f2 gIx (fVar 1) (fC (.int 1)))) fNil))))
noncomputable def FL_plus : List PyData → M Out := fnD 2 0 BL_plus
noncomputable def BL_times : List Sl → Option Fl := (fRet (fCall (gF 2 FL_num) (fCons (f2 (gI gMul) (f2 gIx (fVar 0) (fC (.int 0))) (f2 gIx (fVar 1) (fC (.int 0)))) (fCons (f2 (gI gMul) (f2 gIx (fVar 0) (fC (.int 1))) (f2 gIx (fVar 1) (fC (.int 1)))) fNil))))
noncomputable def FL_times : List PyData → M Out := fnD 2 0 BL_times
noncomputable def BL_product : List Sl → Option Fl := (fSeq (fSet 2 (f2 gRep (fCall gLst (fCons (fCall gTup (fCons (fC (.int 0)) (fCons (fC (.int 1)) fNil))) fNil)) (fCall (g2 (gI gMax)) (fCons (fC (.int 0)) (fCons (f2 (gI gSub) (f2 (gI gAdd) (fCall (g1 lenOf) (fCons (fVar 0) fNil)) (fCall (g1 lenOf) (fCons (fVar 1) fNil))) (fC (.int 1))) fNil)))))
    (fSeq (fFor (fR rng1 (fCons (fCall (g1 lenOf) (fCons (fVar 0) fNil)) fNil)) (tName 3) (fFor (fR rng1 (fCons (fCall (g1 lenOf) (fCons (fVar 1) fNil)) fNil)) (tName 4) (fPut 2 (fCall (gF 2 FL_plus) (fCons (f2 gIx (fVar 2) (f2 (gI gAdd) (fVar 3) (fVar 4))) (fCons (fCall (gF 2 FL_times) (fCons (f2 gIx (fVar 0) (fVar 3)) (fCons (f2 gIx (fVar 1) (fVar 4)) fNil))) fNil))) (f2 (gI gAdd) (fVar 3) (fVar 4)))))
    (fRet (fCall (gF 1 FL_clean) (fCons (fVar 2) fNil)))))
noncomputable def FL_product : List PyData → M Out := fnD 2 3 BL_product
noncomputable def BL_sum : List Sl → Option Fl := (fSeq (fSet 2 (fCall (g2 (gI gMax)) (fCons (fCall (g1 lenOf) (fCons (fVar 0) fNil)) (fCons (fCall (g1 lenOf) (fCons (fVar 1) fNil)) fNil))))
    (fSeq (fSet 3 (fLC (fI itemsL (fCall gLst (fCons (fVar 0) (fCons (fVar 1) fNil)))) fTrue (fFz (f2 gCat (fCall (g1 listOf) (fCons (fVar 0) fNil)) (f2 gRep (fCall gLst (fCons (fCall gTup (fCons (fC (.int 0)) (fCons (fC (.int 1)) fNil))) fNil)) (f2 (gI gSub) (fVar 3) (fCall (g1 lenOf) (fCons (fVar 0) fNil))))))))
    (fRet (fCall (gF 1 FL_clean) (fCons (fLC (fR rng1 (fCons (fVar 2) fNil)) fTrue (fCall (gF 2 FL_plus) (fCons (f2 gIx (f2 gIx (fVar 4) (fC (.int 0))) (fVar 0)) (fCons (f2 gIx (f2 gIx (fVar 4) (fC (.int 1))) (fVar 0)) fNil)))) fNil)))))
noncomputable def FL_sum : List PyData → M Out := fnD 2 2 BL_sum
noncomputable def BL_next : List Sl → Option Fl := (fSeq (fSet 3 (f2 (gI gSub) (f2 (gI gMod) (fVar 2) (fC (.int 7))) (fC (.int 2))))
    (fSeq (fIfS (fB (f2 (gEq false) (fVar 3) (fU negOf (fC (.int 2))))) (fRet (fCall gTup (fCons (fVar 0) (fCons (fC .none) fNil)))) fNext)
    (fSeq (fSet 4 (fCall gTup (fCons (fCall (gF 2 FL_num) (fCons (f2 (gI gAdd) (fC (.int 1)) (f2 (gI gMod) (f2 (gI gFdiv) (fVar 2) (fC (.int 7))) (fC (.int 5)))) (fCons (f2 (gI gAdd) (fC (.int 1)) (f2 (gI gMod) (f2 (gI gFdiv) (fVar 2) (fC (.int 35))) (fC (.int 3)))) fNil))) fNil)))
    (fSeq (fIfS (fB (f2 (gEq false) (f2 (gI gMod) (f2 (gI gFdiv) (fVar 2) (fC (.int 105))) (fC (.int 2))) (fC (.int 1)))) (fSet 4 (fCall (gF 2 FL_product) (fCons (fVar 4) (fCons (fCall gTup (fCons (fCall gTup (fCons (fU negOf (fC (.int 1))) (fCons (fC (.int 1)) fNil))) fNil)) fNil)))) fNext)
    (fSeq (fFor (fR rng1 (fCons (f2 (gI gAdd) (fCall (g2 (gI gMin)) (fCons (fVar 3) (fCons (fC (.int 3)) fNil))) (fC (.int 1))) fNil)) (tName 5) (fSet 4 (fCall (gF 2 FL_product) (fCons (fVar 4) (fCons (fCall gTup (fCons (fCall (gF 2 FL_times) (fCons (fCall gTup (fCons (fU negOf (fC (.int 1))) (fCons (fC (.int 1)) fNil))) (fCons (fVar 1) fNil))) (fCons (fCall gTup (fCons (fC (.int 1)) (fCons (fC (.int 1)) fNil))) fNil))) fNil)))))
    (fRet (fCall gTup (fCons (fCall (gF 2 FL_sum) (fCons (fVar 0) (fCons (fVar 4) fNil))) (fCons (fCall (g2 (gI gMin)) (fCons (fVar 3) (fCons (fC (.int 3)) fNil))) fNil)))))))))
noncomputable def FL_next : List PyData → M Out := fnD 3 3 BL_next
noncomputable def BL_pieces : List Sl → Option Fl := (fSeq (fSet 4 (f2 (gI gAdd) (fC (.int 1)) (f2 (gI gMod) (fCall (gF 2 FL_cell_at) (fCons (fVar 0) (fCons (fVar 1) fNil))) (fVar 2))))
    (fSeq (fSet 5 (f2 gIx (fVar 3) (f2 (gI gMod) (f2 (gI gFdiv) (fCall (gF 2 FL_cell_at) (fCons (fVar 0) (fCons (fVar 1) fNil))) (fC (.int 8))) (fCall (g1 lenOf) (fCons (fVar 3) fNil)))))
    (fSeq (fSet 6 (fCall (gF 1 FL_clean) (fCons (fLC (fR rng1 (fCons (fC (.int 3)) fNil)) fTrue (fCall (gF 2 FL_num) (fCons (f2 (gI gSub) (f2 (gI gMod) (fCall (gF 2 FL_cell_at) (fCons (fVar 1) (fCons (f2 (gI gAdd) (f2 (gI gAdd) (fVar 2) (fC (.int 1))) (fVar 0)) fNil))) (fC (.int 9))) (fC (.int 4))) (fCons (f2 (gI gAdd) (fC (.int 1)) (f2 (gI gMod) (fVar 0) (fC (.int 2)))) fNil)))) fNil)))
    (fSeq (fSet 7 (fCall gLst fNil))
    (fSeq (fSet 8 (fCall gLst fNil))
    (fSeq (fFor (fR rng1 (fCons (fVar 4) fNil)) (tName 9) (fSeq (fSet 10 (fCall (gF 2 FL_cell_at) (fCons (fVar 0) (fCons (f2 (gI gAdd) (f2 (gI gAdd) (fVar 1) (fC (.int 4))) (fVar 9)) fNil))))
    (fSeq (fSet 11 (fCall (gF 2 FL_plus) (fCons (fVar 5) (fCons (fCall (gF 2 FL_num) (fCons (f2 (gI gAdd) (fC (.int 1)) (f2 (gI gMod) (fVar 10) (fC (.int 4)))) (fCons (f2 (gI gAdd) (fC (.int 1)) (f2 (gI gMod) (f2 (gI gFdiv) (fVar 10) (fC (.int 4))) (fC (.int 3)))) fNil))) fNil))))
    (fSeq (fApp 7 (fCall gTup (fCons (fVar 5) (fCons (fVar 11) (fCons (fVar 6) fNil)))))
    (fSeq (fAsg (tTupT (tsCons (tName 6) (tsCons (tName 12) tsNil)) 2) (fCall (gF 3 FL_next) (fCons (fVar 6) (fCons (fVar 11) (fCons (f2 (gI gFdiv) (fVar 10) (fC (.int 12))) fNil)))))
    (fSeq (fApp 8 (fVar 12))
    (fSet 5 (fVar 11))))))))
    (fRetT (fCons (fVar 7) (fCons (fSl gSlL (fVar 8) fNoP (fPart (fU negOf (fC (.int 1))))) fNil)))))))))
noncomputable def FL_pieces : List PyData → M Out := fnD 4 9 BL_pieces
noncomputable def B_less : List Sl → Option Fl := (fRet (f2 (gI gLt) (f2 (gI gMul) (f2 gIx (fVar 0) (fC (.int 0))) (f2 gIx (fVar 1) (fC (.int 1)))) (f2 (gI gMul) (f2 gIx (fVar 1) (fC (.int 0))) (f2 gIx (fVar 0) (fC (.int 1))))))
noncomputable def F_less : List PyData → M Out := fnD 2 0 B_less
noncomputable def B_check_pieces : List Sl → Option Fl := (fSeq (fIfS (fOr (fB (f2 (gEq false) (fCall (g1 lenOf) (fCons (fVar 0) fNil)) (fC (.int 0)))) (fB (f2 (gI gGt) (fCall (g1 lenOf) (fCons (fVar 0) fNil)) (fC (.int 8))))) (fRaise .NoPieces (fCons (fC (.str "a row has one to eight pieces")) fNil)) fNext)
    (fSeq (fIfS (fNot (fB (fCall (g1 (qOf allB)) (fCons (fLC (fI itemsL (fVar 0)) fTrue (fCall (gF 2 F_less) (fCons (f2 gIx (fVar 0) (fC (.int 0))) (fCons (f2 gIx (fVar 0) (fC (.int 1))) fNil)))) fNil)))) (fRaise .NoPieces (fCons (fC (.str "a piece has its low less than its high")) fNil)) fNext)
    (fIfS (fNot (fB (fCall (g1 (qOf allB)) (fCons (fLC (fR rng2 (fCons (fC (.int 1)) (fCons (fCall (g1 lenOf) (fCons (fVar 0) fNil)) fNil))) fTrue (f2 (gEq false) (f2 gIx (f2 gIx (fVar 1) (fVar 0)) (fC (.int 0))) (f2 gIx (f2 gIx (fVar 1) (f2 (gI gSub) (fVar 0) (fC (.int 1)))) (fC (.int 1))))) fNil)))) (fRaise .NoPieces (fCons (fC (.str "each piece begins where the one ahead ends")) fNil)) fNext)))
noncomputable def F_check_pieces : List PyData → M Out := fnD 1 0 B_check_pieces
noncomputable def B_row_of : List Sl → Option Fl := (fSeq (fDrop (fCall (gF 1 F_check_pieces) (fCons (fVar 0) fNil)))
    (fSeq (fIfS (fB (fCall (g1 (qOf anyB)) (fCons (fLC (fI itemsL (fVar 0)) fTrue (f2 (gI gGt) (f2 (gI gSub) (fCall (g1 lenOf) (fCons (f2 gIx (fVar 0) (fC (.int 2))) fNil)) (fC (.int 1))) (fC (.int 6)))) fNil))) (fRaise .TooGreat (fCons (fC (.str "the curve of a piece has a degree of at most six")) fNil)) fNext)
    (fRet (fCall (g1 tupleOf) (fCons (fVar 0) fNil)))))
noncomputable def F_row_of : List PyData → M Out := fnD 1 0 B_row_of
noncomputable def B_greatest_divisor : List Sl → Option Fl := (fSeq (fWh (fB (f2 (gEq true) (fVar 1) (fC (.int 0)))) (fSeq (fSet 2 (f2 (gI gMod) (fVar 0) (fVar 1)))
    (fSeq (fSet 0 (fVar 1))
    (fSet 1 (fVar 2)))))
    (fRet (fCall (g1 absOf) (fCons (fVar 0) fNil))))
noncomputable def F_greatest_divisor : List PyData → M Out := fnD 2 1 B_greatest_divisor
noncomputable def B_number : List Sl → Option Fl := (fSeq (fIfS (fB (f2 (gEq false) (fVar 1) (fC (.int 0)))) (fRaise .NoNumber (fCons (fC (.str "a number has no bottom 0")) fNil)) fNext)
    (fSeq (fSet 2 (fCall (gF 2 F_greatest_divisor) (fCons (fVar 0) (fCons (fVar 1) fNil))))
    (fSeq (fIfS (fB (f2 (gI gLt) (fVar 1) (fC (.int 0)))) (fSet 2 (fU negOf (fVar 2))) fNext)
    (fRet (fCall gTup (fCons (f2 (gI gFdiv) (fVar 0) (fVar 2)) (fCons (f2 (gI gFdiv) (fVar 1) (fVar 2)) fNil)))))))
noncomputable def F_number : List PyData → M Out := fnD 2 1 B_number
noncomputable def B_plus : List Sl → Option Fl := (fRet (fCall (gF 2 F_number) (fCons (f2 (gI gAdd) (f2 (gI gMul) (f2 gIx (fVar 0) (fC (.int 0))) (f2 gIx (fVar 1) (fC (.int 1)))) (f2 (gI gMul) (f2 gIx (fVar 1) (fC (.int 0))) (f2 gIx (fVar 0) (fC (.int 1))))) (fCons (f2 (gI gMul) (f2 gIx (fVar 0) (fC (.int 1))) (f2 gIx (fVar 1) (fC (.int 1)))) fNil))))
noncomputable def F_plus : List PyData → M Out := fnD 2 0 B_plus
noncomputable def B_minus : List Sl → Option Fl := (fRet (fCall (gF 2 F_number) (fCons (f2 (gI gSub) (f2 (gI gMul) (f2 gIx (fVar 0) (fC (.int 0))) (f2 gIx (fVar 1) (fC (.int 1)))) (f2 (gI gMul) (f2 gIx (fVar 1) (fC (.int 0))) (f2 gIx (fVar 0) (fC (.int 1))))) (fCons (f2 (gI gMul) (f2 gIx (fVar 0) (fC (.int 1))) (f2 gIx (fVar 1) (fC (.int 1)))) fNil))))
noncomputable def F_minus : List PyData → M Out := fnD 2 0 B_minus
noncomputable def B_times : List Sl → Option Fl := (fRet (fCall (gF 2 F_number) (fCons (f2 (gI gMul) (f2 gIx (fVar 0) (fC (.int 0))) (f2 gIx (fVar 1) (fC (.int 0)))) (fCons (f2 (gI gMul) (f2 gIx (fVar 0) (fC (.int 1))) (f2 gIx (fVar 1) (fC (.int 1)))) fNil))))
noncomputable def F_times : List PyData → M Out := fnD 2 0 B_times
noncomputable def B_moved : List Sl → Option Fl := (fSeq (fSet 2 (fCall (g1 listOf) (fCons (fVar 0) fNil)))
    (fSeq (fFor (fR rng1 (fCons (fCall (g1 lenOf) (fCons (fVar 0) fNil)) fNil)) (tName 3) (fFor (fR rng3 (fCons (f2 (gI gSub) (fCall (g1 lenOf) (fCons (fVar 0) fNil)) (fC (.int 2))) (fCons (f2 (gI gSub) (fVar 3) (fC (.int 1))) (fCons (fU negOf (fC (.int 1))) fNil)))) (tName 4) (fPut 2 (fCall (gF 2 F_minus) (fCons (f2 gIx (fVar 2) (fVar 4)) (fCons (fCall (gF 2 F_times) (fCons (fVar 1) (fCons (f2 gIx (fVar 2) (f2 (gI gAdd) (fVar 4) (fC (.int 1)))) fNil))) fNil))) (fVar 4))))
    (fRet (fCall (g1 tupleOf) (fCons (fVar 2) fNil)))))
noncomputable def F_moved : List PyData → M Out := fnD 2 3 B_moved
noncomputable def B_row_moved : List Sl → Option Fl := (fRet (fCall (g1 tupleOf) (fCons (fLC (fI itemsT (fVar 0)) fTrue (fCall gTup (fCons (fCall (gF 2 F_plus) (fCons (f2 gIx (fVar 0) (fC (.int 0))) (fCons (fVar 2) fNil))) (fCons (fCall (gF 2 F_plus) (fCons (f2 gIx (fVar 0) (fC (.int 1))) (fCons (fVar 2) fNil))) (fCons (fCall (gF 2 F_moved) (fCons (f2 gIx (fVar 0) (fC (.int 2))) (fCons (fVar 2) fNil))) fNil))))) fNil)))
noncomputable def F_row_moved : List PyData → M Out := fnD 2 0 B_row_moved
noncomputable def B_sign : List Sl → Option Fl := (fSeq (fIfS (fB (f2 (gI gGt) (f2 gIx (fVar 0) (fC (.int 0))) (fC (.int 0)))) (fRet (fC (.int 1))) fNext)
    (fSeq (fIfS (fB (f2 (gI gLt) (f2 gIx (fVar 0) (fC (.int 0))) (fC (.int 0)))) (fRet (fU negOf (fC (.int 1)))) fNext)
    (fRet (fC (.int 0)))))
noncomputable def F_sign : List PyData → M Out := fnD 1 0 B_sign
noncomputable def B_over : List Sl → Option Fl := (fRet (fCall (gF 2 F_number) (fCons (f2 (gI gMul) (f2 gIx (fVar 0) (fC (.int 0))) (f2 gIx (fVar 1) (fC (.int 1)))) (fCons (f2 (gI gMul) (f2 gIx (fVar 0) (fC (.int 1))) (f2 gIx (fVar 1) (fC (.int 0)))) fNil))))
noncomputable def F_over : List PyData → M Out := fnD 2 0 B_over
noncomputable def B_stretched : List Sl → Option Fl := (fSeq (fIfS (fB (f2 (gEq false) (fCall (gF 1 F_sign) (fCons (fVar 1) fNil)) (fC (.int 0)))) (fRaise .NoNumber (fCons (fC (.str "no curve is stretched by nought")) fNil)) fNext)
    (fSeq (fSet 2 (fCall gLst fNil))
    (fSeq (fSet 3 (fC (.tuple [(.int 1), (.int 1)])))
    (fSeq (fFor (fI itemsT (fVar 0)) (tName 4) (fSeq (fApp 2 (fCall (gF 2 F_over) (fCons (fVar 4) (fCons (fVar 3) fNil))))
    (fSet 3 (fCall (gF 2 F_times) (fCons (fVar 3) (fCons (fVar 1) fNil))))))
    (fRet (fCall (g1 tupleOf) (fCons (fVar 2) fNil)))))))
noncomputable def F_stretched : List PyData → M Out := fnD 2 3 B_stretched
noncomputable def B_row_stretched : List Sl → Option Fl := (fSeq (fIfS (fB (f2 (gI gLe) (fCall (gF 1 F_sign) (fCons (fVar 1) fNil)) (fC (.int 0)))) (fRaise .NoNumber (fCons (fC (.str "a row is stretched by a number above nought")) fNil)) fNext)
    (fRet (fCall (g1 tupleOf) (fCons (fLC (fI itemsT (fVar 0)) fTrue (fCall gTup (fCons (fCall (gF 2 F_times) (fCons (f2 gIx (fVar 0) (fC (.int 0))) (fCons (fVar 2) fNil))) (fCons (fCall (gF 2 F_times) (fCons (f2 gIx (fVar 0) (fC (.int 1))) (fCons (fVar 2) fNil))) (fCons (fCall (gF 2 F_stretched) (fCons (f2 gIx (fVar 0) (fC (.int 2))) (fCons (fVar 2) fNil))) fNil))))) fNil))))
noncomputable def F_row_stretched : List PyData → M Out := fnD 2 0 B_row_stretched
noncomputable def BL_plain : List Sl → Option Fl := (fSeq (fSet 1 (fCall gLst fNil))
    (fSeq (fFrz 0 (fFor (fI itemsL (fVar 0)) (tTupT (tsCons (tName 2) (tsCons (tName 3) (tsCons (tName 4) tsNil))) 3) (fSeq (fIfS (fAnd (fB (f2 (gEq true) (fVar 1) (fCall gLst fNil))) (fB (f2 (gEq false) (f2 gIx (f2 gIx (fVar 1) (fU negOf (fC (.int 1)))) (fC (.int 2))) (fVar 4)))) (fPopIx 2 1 0) fNext)
    (fApp 1 (fCall gTup (fCons (fVar 2) (fCons (fVar 3) (fCons (fVar 4) fNil))))))))
    (fRet (fCall (g1 tupleOf) (fCons (fVar 1) fNil)))))
noncomputable def FL_plain : List PyData → M Out := fnD 1 4 BL_plain
noncomputable def BL_refused : List Sl → Option Fl := (fSeq (fSet 2 (fC .none))
    (fSeq (fTry (fun n => decide (n ∈ ([Ex.NoNumber, Ex.NoPieces, Ex.NoStretch, Ex.TooGreat] : List Ex))) (gF 2 F_row_stretched) (fCons (fVar 0) (fCons (fVar 1) fNil)) kDrop 3 (fSeq (fSet 2 (fV (fNot (fB (fU (gIsi (ansL [(.exc .NoNumber, false), (.exc .NoPieces, true), (.exc .NoStretch, true), (.exc .TooGreat, true)])) (fVar 3))))))
    (fSet 2 (fV (fAnd (fB (fVar 2)) (fAnd (fB (fU (gIsi (ansL [(.exc .NoNumber, true), (.exc .NoPieces, false), (.exc .NoStretch, false), (.exc .TooGreat, false)])) (fVar 3))) (fB (fU (gIsi (ansL [(.exc .NoNumber, true), (.exc .NoPieces, true), (.exc .NoStretch, true), (.exc .TooGreat, true)])) (fVar 3)))))))))
    (fRet (f2 gIsB (fVar 2) (fC (.bool true))))))
noncomputable def FL_refused : List PyData → M Out := fnD 2 2 BL_refused
noncomputable def B_curve_of : List Sl → Option Fl := (fSeq (fSet 1 (fCall (g1 lenOf) (fCons (fVar 0) fNil)))
    (fSeq (fWh (fAnd (fB (f2 (gI gGt) (fVar 1) (fC (.int 0)))) (fB (f2 (gEq false) (fCall (gF 1 F_sign) (fCons (f2 gIx (fVar 0) (f2 (gI gSub) (fVar 1) (fC (.int 1)))) fNil)) (fC (.int 0))))) (fSet 1 (f2 (gI gSub) (fVar 1) (fC (.int 1)))))
    (fSeq (fIfS (fB (f2 (gI gGt) (fVar 1) (fC (.int 13)))) (fRaise .TooGreat (fCons (fC (.str "a curve has at most thirteen numbers")) fNil)) fNext)
    (fRet (fCall (g1 tupleOf) (fCons (fSl gSlL (fVar 0) fNoP (fPart (fVar 1))) fNil))))))
noncomputable def F_curve_of : List PyData → M Out := fnD 1 1 B_curve_of
noncomputable def B_number_at : List Sl → Option Fl := (fSeq (fIfS (fB (f2 (gI gLt) (fVar 1) (fCall (g1 lenOf) (fCons (fVar 0) fNil)))) (fRet (f2 gIx (fVar 0) (fVar 1))) fNext)
    (fRet (fC (.tuple [(.int 0), (.int 1)]))))
noncomputable def F_number_at : List PyData → M Out := fnD 2 0 B_number_at
noncomputable def B_taken : List Sl → Option Fl := (fSeq (fSet 2 (fCall (g2 (gI gMax)) (fCons (fCall (g1 lenOf) (fCons (fVar 0) fNil)) (fCons (fCall (g1 lenOf) (fCons (fVar 1) fNil)) fNil))))
    (fRet (fCall (gF 1 F_curve_of) (fCons (fLC (fR rng1 (fCons (fVar 2) fNil)) fTrue (fCall (gF 2 F_minus) (fCons (fCall (gF 2 F_number_at) (fCons (fVar 1) (fCons (fVar 0) fNil))) (fCons (fCall (gF 2 F_number_at) (fCons (fVar 2) (fCons (fVar 0) fNil))) fNil)))) fNil))))
noncomputable def F_taken : List PyData → M Out := fnD 2 1 B_taken
noncomputable def B_slope : List Sl → Option Fl := (fRet (fCall (g1 tupleOf) (fCons (fLC (fR rng2 (fCons (fC (.int 1)) (fCons (fCall (g1 lenOf) (fCons (fVar 0) fNil)) fNil))) fTrue (fCall (gF 2 F_times) (fCons (f2 gIx (fVar 1) (fVar 0)) (fCons (fCall (gF 2 F_number) (fCons (fVar 0) (fCons (fC (.int 1)) fNil))) fNil)))) fNil)))
noncomputable def F_slope : List PyData → M Out := fnD 1 0 B_slope
noncomputable def B_worth : List Sl → Option Fl := (fSeq (fSet 2 (fC (.tuple [(.int 0), (.int 1)])))
    (fSeq (fFor (fI itemsRevT (fVar 0)) (tName 3) (fSet 2 (fCall (gF 2 F_plus) (fCons (fCall (gF 2 F_times) (fCons (fVar 2) (fCons (fVar 1) fNil))) (fCons (fVar 3) fNil)))))
    (fRet (fVar 2))))
noncomputable def F_worth : List PyData → M Out := fnD 2 2 B_worth
noncomputable def B_smooth_at : List Sl → Option Fl := (fSeq (fSet 3 (fCall (gF 2 F_taken) (fCons (fVar 0) (fCons (fVar 1) fNil))))
    (fSeq (fIfS (fB (f2 (gEq false) (fCall (g1 lenOf) (fCons (fVar 3) fNil)) (fC (.int 0)))) (fRet (fC .none)) fNext)
    (fSeq (fSet 4 (fU negOf (fC (.int 1))))
    (fSeq (fWh (fB (f2 (gEq false) (fCall (gF 1 F_sign) (fCons (fCall (gF 2 F_worth) (fCons (fVar 3) (fCons (fVar 2) fNil))) fNil)) (fC (.int 0)))) (fSeq (fSet 4 (f2 (gI gAdd) (fVar 4) (fC (.int 1))))
    (fSet 3 (fCall (gF 1 F_slope) (fCons (fVar 3) fNil)))))
    (fRet (fVar 4))))))
noncomputable def F_smooth_at : List PyData → M Out := fnD 3 2 B_smooth_at
noncomputable def B_smoothness : List Sl → Option Fl := (fRet (fLC (fR rng2 (fCons (fC (.int 1)) (fCons (fCall (g1 lenOf) (fCons (fVar 0) fNil)) fNil))) fTrue (fCall (gF 3 F_smooth_at) (fCons (f2 gIx (f2 gIx (fVar 1) (f2 (gI gSub) (fVar 0) (fC (.int 1)))) (fC (.int 2))) (fCons (f2 gIx (f2 gIx (fVar 1) (fVar 0)) (fC (.int 2))) (fCons (f2 gIx (f2 gIx (fVar 1) (fVar 0)) (fC (.int 0))) fNil))))))
noncomputable def F_smoothness : List PyData → M Out := fnD 1 0 B_smoothness
noncomputable def BL_worth_of : List Sl → Option Fl := (fSeq (fSet 2 (fCall gTup (fCons (fC (.int 0)) (fCons (fC (.int 1)) fNil))))
    (fSeq (fFor (fI itemsRevT (fVar 0)) (tName 3) (fSet 2 (fCall (gF 2 FL_plus) (fCons (fCall (gF 2 FL_times) (fCons (fVar 2) (fCons (fVar 1) fNil))) (fCons (fVar 3) fNil)))))
    (fRet (fVar 2))))
noncomputable def FL_worth_of : List PyData → M Out := fnD 2 2 BL_worth_of
noncomputable def BL_led : List Sl → Option Fl := (fSeq (fIfS (fOr (fNot (fB (fU (gIsi (ansL [(.non, false), (.bl, false), (.int, false), (.lst, false), (.tup, true)])) (fVar 1)))) (fOr (fB (f2 (gEq true) (fCall (g1 lenOf) (fCons (fVar 1) fNil)) (fCall (g1 lenOf) (fCons (fVar 0) fNil)))) (fB (f2 (gEq true) (fCall (gF 1 F_smoothness) (fCons (fVar 1) fNil)) (fVar 2))))) (fRet (fC (.bool false))) fNext)
    (fSeq (fFor (fR rng1 (fCons (fCall (g1 lenOf) (fCons (fVar 0) fNil)) fNil)) (tName 5) (fSeq (fAsg (tTupT (tsCons (tName 7) (tsCons (tName 8) (tsCons (tName 9) tsNil))) 3) (f2 gIx (fVar 0) (fVar 5)))
    (fSeq (fIfS (fB (f2 (gEq true) (fSl gSlT (f2 gIx (fVar 1) (fVar 5)) fNoP (fPart (fC (.int 2)))) (fCall gTup (fCons (fCalL 4 2 FL_plus FL_times (fCons (fVar 7) (fCons (fVar 3) fNil))) (fCons (fCalL 4 2 FL_plus FL_times (fCons (fVar 8) (fCons (fVar 3) fNil))) fNil))))) (fRet (fC (.bool false))) fNext)
    (fFor (fI itemsL (fCall gLst (fCons (fVar 7) (fCons (fCall (gF 2 FL_times) (fCons (fCall (gF 2 FL_plus) (fCons (fVar 7) (fCons (fVar 8) fNil))) (fCons (fCall gTup (fCons (fC (.int 1)) (fCons (fC (.int 2)) fNil))) fNil))) (fCons (fCall (gF 2 FL_plus) (fCons (fVar 7) (fCons (fCall gTup (fCons (fC (.int 1)) (fCons (fC (.int 1)) fNil))) fNil))) fNil))))) (tName 6) (fIfS (fB (f2 (gEq true) (fCall (gF 2 FL_worth_of) (fCons (f2 gIx (f2 gIx (fVar 1) (fVar 5)) (fC (.int 2))) (fCons (fCalL 4 2 FL_plus FL_times (fCons (fVar 6) (fCons (fVar 3) fNil))) fNil))) (fCall (gF 2 FL_worth_of) (fCons (fVar 9) (fCons (fVar 6) fNil))))) (fRet (fC (.bool false))) fNext)))))
    (fRet (fC (.bool true)))))
noncomputable def FL_led : Ex → List PyData → M Out := fnV 4 5 BL_led
noncomputable def B_plainest : List Sl → Option Fl := (fSeq (fSet 1 (fCall gLst fNil))
    (fSeq (fFor (fI itemsT (fVar 0)) (tName 2) (fIfS (fAnd (fB (f2 (gI gGt) (fCall (g1 lenOf) (fCons (fVar 1) fNil)) (fC (.int 0)))) (fB (f2 (gEq false) (f2 gIx (f2 gIx (fVar 1) (fU negOf (fC (.int 1)))) (fC (.int 2))) (f2 gIx (fVar 2) (fC (.int 2)))))) (fPut 1 (fCall gTup (fCons (f2 gIx (f2 gIx (fVar 1) (fU negOf (fC (.int 1)))) (fC (.int 0))) (fCons (f2 gIx (fVar 2) (fC (.int 1))) (fCons (f2 gIx (fVar 2) (fC (.int 2))) fNil)))) (fU negOf (fC (.int 1)))) (fApp 1 (fVar 2))))
    (fRet (fCall (g1 tupleOf) (fCons (fVar 1) fNil)))))
noncomputable def F_plainest : List PyData → M Out := fnD 1 2 B_plainest
noncomputable def B_row_worth : List Sl → Option Fl := (fSeq (fIfS (fOr (fB (fCall (gF 2 F_less) (fCons (fVar 1) (fCons (f2 gIx (f2 gIx (fVar 0) (fC (.int 0))) (fC (.int 0))) fNil)))) (fB (fCall (gF 2 F_less) (fCons (f2 gIx (f2 gIx (fVar 0) (fU negOf (fC (.int 1)))) (fC (.int 1))) (fCons (fVar 1) fNil))))) (fRaise .NoStretch (fCons (fC (.str "this place lies outside of the row")) fNil)) fNext)
    (fSeq (fSet 2 (fLC (fI itemsT (fVar 0)) (fNot (fB (fCall (gF 2 F_less) (fCons (fVar 2) (fCons (f2 gIx (fVar 0) (fC (.int 0))) fNil))))) (fVar 0)))
    (fRet (fCall (gF 2 F_worth) (fCons (f2 gIx (f2 gIx (fVar 2) (fU negOf (fC (.int 1)))) (fC (.int 2))) (fCons (fVar 1) fNil))))))
noncomputable def F_row_worth : List PyData → M Out := fnD 2 1 B_row_worth
noncomputable def B_law : List Sl → Option Fl := (fSeq (fSet 1 (f2 gIx (fCall gLst (fCons (fC (.int 4)) (fCons (fC (.int 8)) fNil))) (fCall (g1 intOf) (fCons (f2 (gEq false) (f2 (gI gMod) (fCall (gF 2 FL_cell_at) (fCons (fVar 0) (fCons (fC (.int 20)) fNil))) (fC (.int 8))) (fC (.int 5))) fNil))))
    (fSeq (fAsg (tTupT (tsCons (tName 8) (tsCons (tName 9) tsNil)) 2) (fCall (gF 4 FL_pieces) (fCons (fVar 0) (fCons (fC (.int 0)) (fCons (fVar 1) (fCons (fCall gLst (fCons (fCall gTup (fCons (fC (.int 0)) (fCons (fC (.int 1)) fNil))) (fCons (fCall gTup (fCons (fU negOf (fC (.int 3))) (fCons (fC (.int 1)) fNil))) (fCons (fCall gTup (fCons (fC (.int 1)) (fCons (fC (.int 2)) fNil))) (fCons (fCall gTup (fCons (fU negOf (fC (.int 7))) (fCons (fC (.int 4)) fNil))) fNil))))) fNil))))))
    (fSeq (fSet 2 (fCall (gF 1 F_row_of) (fCons (fVar 8) fNil)))
    (fSeq (fSet 3 (fCall (gF 2 FL_num) (fCons (f2 (gI gSub) (f2 (gI gMod) (fCall (gF 2 FL_cell_at) (fCons (fVar 0) (fCons (fC (.int 21)) fNil))) (fC (.int 21))) (fC (.int 10))) (fCons (f2 (gI gAdd) (fC (.int 1)) (f2 (gI gMod) (fCall (gF 2 FL_cell_at) (fCons (fVar 0) (fCons (fC (.int 22)) fNil))) (fC (.int 5)))) fNil))))
    (fSeq (fSet 4 (fCall (gF 2 FL_num) (fCons (f2 (gI gAdd) (fC (.int 1)) (f2 (gI gMod) (fCall (gF 2 FL_cell_at) (fCons (fVar 0) (fCons (fC (.int 23)) fNil))) (fC (.int 9)))) (fCons (f2 (gI gAdd) (fC (.int 1)) (f2 (gI gMod) (fCall (gF 2 FL_cell_at) (fCons (fVar 0) (fCons (fC (.int 24)) fNil))) (fC (.int 7)))) fNil))))
    (fSeq (fSet 5 (fCall (gF 2 F_row_moved) (fCons (fVar 2) (fCons (fVar 3) fNil))))
    (fSeq (fSet 6 (fCall (gF 2 F_row_stretched) (fCons (fVar 2) (fCons (fVar 4) fNil))))
    (fSeq (fIfS (fOr (fNot (fB (fCall (gFV 4 FL_led) (fCons (fVar 8) (fCons (fVar 5) (fCons (fVar 9) (fCons (fVar 3) (fCons (fFn .fnA) fNil)))))))) (fNot (fB (fCall (gFV 4 FL_led) (fCons (fVar 8) (fCons (fVar 6) (fCons (fVar 9) (fCons (fVar 4) (fCons (fFn .fnB) fNil))))))))) (fRet (fC (.bool false))) fNext)
    (fSeq (fIfS (fOr (fB (f2 (gEq true) (fCall (gF 2 F_row_moved) (fCons (fVar 5) (fCons (fCall (gF 2 FL_times) (fCons (fCall gTup (fCons (fU negOf (fC (.int 1))) (fCons (fC (.int 1)) fNil))) (fCons (fVar 3) fNil))) fNil))) (fVar 2))) (fB (f2 (gEq true) (fCall (gF 2 F_row_stretched) (fCons (fVar 6) (fCons (fCall (gF 2 FL_num) (fCons (f2 gIx (fVar 4) (fC (.int 1))) (fCons (f2 gIx (fVar 4) (fC (.int 0))) fNil))) fNil))) (fVar 2)))) (fRet (fC (.bool false))) fNext)
    (fSeq (fIfS (fNot (fB (fCall (gF 2 FL_refused) (fCons (fVar 2) (fCons (f2 gIx (fCall gLst (fCons (fCall gTup (fCons (fC (.int 0)) (fCons (fC (.int 1)) fNil))) (fCons (fCall (gF 2 FL_times) (fCons (fCall gTup (fCons (fU negOf (fC (.int 1))) (fCons (fC (.int 1)) fNil))) (fCons (fVar 4) fNil))) fNil))) (f2 (gI gMod) (fCall (gF 2 FL_cell_at) (fCons (fVar 0) (fCons (fC (.int 25)) fNil))) (fC (.int 2)))) fNil))))) (fRet (fC (.bool false))) fNext)
    (fSeq (fSet 7 (fCall (gF 1 FL_plain) (fCons (fVar 8) fNil)))
    (fSeq (fIfS (fOr (fB (f2 (gEq true) (fCall (gF 1 F_plainest) (fCons (fVar 2) fNil)) (fVar 7))) (fB (f2 (gEq true) (fCall (gF 1 F_plainest) (fCons (fVar 7) fNil)) (fVar 7)))) (fRet (fC (.bool false))) fNext)
    (fRet (f2 (gEq false) (fLC3 (fI itemsL (fVar 8)) (fCall (gF 2 F_row_worth) (fCons (fVar 10) (fCons (fVar 0) fNil)))) (fLC3 (fI itemsL (fVar 8)) (fCall (gF 2 F_row_worth) (fCons (fVar 5) (fCons (fVar 0) fNil))))))))))))))))))
noncomputable def F_law : List PyData → M Out := fnD 1 9 B_law
section
variable [Ecx]
structure Facts (K : PySem.W.Frag) (mg : Str → Option Value) : Prop where
  m_list : mg "list" = none
  m_tuple : mg "tuple" = none
  m_len : mg "len" = none
  m_abs : mg "abs" = none
  m_max : mg "max" = none
  m_range : mg "range" = none
  m_min : mg "min" = none
  c_MOST_PIECES : HasC K mg "MOST_PIECES" (.int 8)
  m_NoPieces : mg "NoPieces" = some (.ref (ecx .NoPieces))
  q_NoPieces : PySem.W.excIn K (ecx .NoPieces) [.type "ValueError", .type "Exception", .type "BaseException", .type "object"] "ValueError.__new__" = true
  m_all : mg "all" = none
  c_MOST_DEGREE : HasC K mg "MOST_DEGREE" (.int 6)
  m_any : mg "any" = none
  m_TooGreat : mg "TooGreat" = some (.ref (ecx .TooGreat))
  q_TooGreat : PySem.W.excIn K (ecx .TooGreat) [.type "ValueError", .type "Exception", .type "BaseException", .type "object"] "ValueError.__new__" = true
  m_NoNumber : mg "NoNumber" = some (.ref (ecx .NoNumber))
  q_NoNumber : PySem.W.excIn K (ecx .NoNumber) [.type "ValueError", .type "Exception", .type "BaseException", .type "object"] "ValueError.__new__" = true
  c_ONE : HasC K mg "ONE" (.tuple [(.int 1), (.int 1)])
  m_BelowError : mg "BelowError" = some (.ref (ecx .BelowError))
  ck_BelowError : CatchAll K (ecx .BelowError) (fun n => decide (n ∈ ([Ex.NoNumber, Ex.NoPieces, Ex.NoStretch, Ex.TooGreat] : List Ex)))
  m_isinstance : mg "isinstance" = none
  m_NoCurve : mg "NoCurve" = some (.ref (ecx .NoCurve))
  m_NoName : mg "NoName" = some (.ref (ecx .NoName))
  m_NoNear : mg "NoNear" = some (.ref (ecx .NoNear))
  m_NoRow : mg "NoRow" = some (.ref (ecx .NoRow))
  m_NoStretch : mg "NoStretch" = some (.ref (ecx .NoStretch))
  m_NoText : mg "NoText" = some (.ref (ecx .NoText))
  ik0 : IsKs K [(.ref (ecx .NoCurve)), (.ref (ecx .NoName)), (.ref (ecx .NoNear)), (.ref (ecx .NoPieces)), (.ref (ecx .NoRow)), (.ref (ecx .NoStretch)), (.ref (ecx .NoText)), (.ref (ecx .TooGreat))] (ansL [(.exc .NoNumber, false), (.exc .NoPieces, true), (.exc .NoStretch, true), (.exc .TooGreat, true)])
  ik_NoNumber : IsK K (.ref (ecx .NoNumber)) (ansL [(.exc .NoNumber, true), (.exc .NoPieces, false), (.exc .NoStretch, false), (.exc .TooGreat, false)])
  m_ValueError : mg "ValueError" = none
  ik_ValueError : IsK K (.ty "ValueError") (ansL [(.exc .NoNumber, true), (.exc .NoPieces, true), (.exc .NoStretch, true), (.exc .TooGreat, true)])
  c_MOST_NUMBERS : HasC K mg "MOST_NUMBERS" (.int 13)
  c_NOUGHT : HasC K mg "NOUGHT" (.tuple [(.int 0), (.int 1)])
  m_reversed : mg "reversed" = none
  ik_tuple : IsK K (.ty "tuple") (ansL [(.non, false), (.bl, false), (.int, false), (.lst, false), (.tup, true)])
  m__law_plus : mg "_law_plus" = some (.ref (ecx .fnA))
  m__law_times : mg "_law_times" = some (.ref (ecx .fnB))
  q_NoStretch : PySem.W.excIn K (ecx .NoStretch) [.type "ValueError", .type "Exception", .type "BaseException", .type "object"] "ValueError.__new__" = true
  m_int : mg "int" = none
variable {P : Program} {w : World} {K : PySem.W.Frag} {mg : Str → Option Value} {base : Heap} {f : Addr} {fd : FuncData}
theorem scL_clean : FnScope ["_law_numbers", "_law_found"] ["_law_numbers"] (defScope sL_clean) := ⟨rfl, rfl, rfl, by decide +kernel, rfl, by decide +kernel, by decide +kernel⟩
theorem okL_clean (A : Facts K mg) (F : Fun K "_law_clean" "_law_clean" sL_clean f fd) : FnOk P w K mg base (CXR P w) 1 f fd ["_law_numbers"] (spD K 1 FL_clean) :=
  fn_ok 1 1 BL_clean F scL_clean rfl rfl fun cdv AA outer s H E Z =>
   (dss_cons (ds_set 1 scL_clean.nd (de_callTy call_list_of cd_list A.m_list boot_list (dcz (dvz 0) dnz)))
    (dss_cons (ds_while Z (DW.pt (dw_and (dt_cmp (op_neD Z.rm.units) od_ne (dvz 1) (de_lst dnz)) (dw_and1 (dt_cmp (op_eqD Z.rm.units) od_eq (de_ix (de_ix (dvz 1) (de_neg diz)) diz) diz)))) (dss_one (ds_pop 1)))
    (dss_one (ds_ret (de_callTy call_tuple_of cd_tuple A.m_tuple boot_tuple (dcz (dvz 1) dnz))))))
theorem scL_cell_at : FnScope ["_law_script", "_law_k"] ["_law_script", "_law_k"] (defScope sL_cell_at) := ⟨rfl, rfl, rfl, by decide +kernel, rfl, by decide +kernel, by decide +kernel⟩
theorem okL_cell_at (A : Facts K mg) (F : Fun K "_law_cell_at" "_law_cell_at" sL_cell_at f fd) : FnOk P w K mg base (CXR P w) 1 f fd ["_law_script", "_law_k"] (spD K 2 FL_cell_at) :=
  fn_ok 2 0 BL_cell_at F scL_cell_at rfl rfl fun cdv AA outer s H E Z =>
   (dss_cons (ds_if (dt_cmp op_lt od_lt (dvz 1) (de_callB call_len_seq cd_len A.m_len PySem.boot_len (dcz (dvz 0) dnz))) (dss_one (ds_ret (de_ix (dvz 0) (dvz 1)))) dss_nil)
    (dss_cons (ds_if (dt_cmp (op_eqD Z.rm.units) od_eq (de_callB call_len_seq cd_len A.m_len PySem.boot_len (dcz (dvz 0) dnz)) diz) (dss_one (ds_ret (de_bin op_add od_add (de_bin op_mulW od_mul (de_bin op_mulW od_mul (dvz 1) (dvz 1)) diz) (de_bin op_mulW od_mul diz (dvz 1))))) dss_nil)
    (dss_one (ds_ret (de_bin op_add od_add (de_bin op_fdivW od_fdiv (de_ix (dvz 0) (de_bin op_modN od_mod (dvz 1) (de_callB call_len_seq cd_len A.m_len PySem.boot_len (dcz (dvz 0) dnz)))) (de_bin op_add od_add diz (de_bin op_fdivW od_fdiv (dvz 1) (de_callB call_len_seq cd_len A.m_len PySem.boot_len (dcz (dvz 0) dnz))))) (de_bin op_mulW od_mul (de_bin op_mulW od_mul (dvz 1) (dvz 1)) diz))))))
theorem scL_num : FnScope ["_law_top", "_law_bottom", "_law_one", "_law_other"] ["_law_top", "_law_bottom"] (defScope sL_num) := ⟨rfl, rfl, rfl, by decide +kernel, rfl, by decide +kernel, by decide +kernel⟩
theorem okL_num (A : Facts K mg) (F : Fun K "_law_num" "_law_num" sL_num f fd) : FnOk P w K mg base (CXR P w) 1 f fd ["_law_top", "_law_bottom"] (spD K 2 FL_num) :=
  fn_ok 2 2 BL_num F scL_num rfl rfl fun cdv AA outer s H E Z =>
   (dss_cons (ds_par 2 3 Z (dcz (de_callB call_abs cd_abs A.m_abs PyProof.Rows.boot_abs (dcz (dvz 0) dnz)) (dcz (de_callB call_abs cd_abs A.m_abs PyProof.Rows.boot_abs (dcz (dvz 1) dnz)) dnz)) (fun _ h => ps_par rfl scL_num.nd rfl rfl (by decide) rfl rfl h rfl))
    (dss_cons (ds_while Z (dt_cmp (op_neD Z.rm.units) od_ne (dvz 3) diz) (dss_one (ds_par 2 3 Z (dcz (dvz 3) (dcz (de_bin op_modN od_mod (dvz 2) (dvz 3)) dnz)) (fun _ h => ps_par rfl scL_num.nd rfl rfl (by decide) rfl rfl h rfl))))
    (dss_cons (ds_if (dt_cmp op_lt od_lt (dvz 1) diz) (dss_one (ds_set 2 scL_num.nd (de_bin op_sub od_sub diz (dvz 2)))) dss_nil)
    (dss_one (ds_ret (de_tup (dcz (de_bin op_fdivW od_fdiv (dvz 0) (dvz 2)) (dcz (de_bin op_fdivW od_fdiv (dvz 1) (dvz 2)) dnz))))))))
theorem scL_plus : FnScope ["_law_one", "_law_other"] ["_law_one", "_law_other"] (defScope sL_plus) := ⟨rfl, rfl, rfl, by decide +kernel, rfl, by decide +kernel, by decide +kernel⟩
theorem okL_plus (A : Facts K mg) (CL_num : Cal P w K mg base (CXR P w) 1 "_law_num" ["_law_top", "_law_bottom"] (spD K 2 FL_num)) (F : Fun K "_law_plus" "_law_plus" sL_plus f fd) : FnOk P w K mg base (CXR P w) 2 f fd ["_law_one", "_law_other"] (spD K 2 FL_plus) :=
  fn_ok 2 0 BL_plus F scL_plus rfl rfl fun cdv AA outer s H E Z =>
   (dss_one (ds_ret (de_cal Z CL_num (dcz (de_bin op_add od_add (de_bin op_mulW od_mul (de_ix (dvz 0) diz) (de_ix (dvz 1) diz)) (de_bin op_mulW od_mul (de_ix (dvz 1) diz) (de_ix (dvz 0) diz))) (dcz (de_bin op_mulW od_mul (de_ix (dvz 0) diz) (de_ix (dvz 1) diz)) dnz)))))
theorem scL_times : FnScope ["_law_one", "_law_other"] ["_law_one", "_law_other"] (defScope sL_times) := ⟨rfl, rfl, rfl, by decide +kernel, rfl, by decide +kernel, by decide +kernel⟩
theorem okL_times (A : Facts K mg) (CL_num : Cal P w K mg base (CXR P w) 1 "_law_num" ["_law_top", "_law_bottom"] (spD K 2 FL_num)) (F : Fun K "_law_times" "_law_times" sL_times f fd) : FnOk P w K mg base (CXR P w) 2 f fd ["_law_one", "_law_other"] (spD K 2 FL_times) :=
  fn_ok 2 0 BL_times F scL_times rfl rfl fun cdv AA outer s H E Z =>
   (dss_one (ds_ret (de_cal Z CL_num (dcz (de_bin op_mulW od_mul (de_ix (dvz 0) diz) (de_ix (dvz 1) diz)) (dcz (de_bin op_mulW od_mul (de_ix (dvz 0) diz) (de_ix (dvz 1) diz)) dnz)))))
theorem scL_product : FnScope ["_law_one", "_law_other", "_law_found", "_law_j", "_law_k"] ["_law_one", "_law_other"] (defScope sL_product) := ⟨rfl, rfl, rfl, by decide +kernel, rfl, by decide +kernel, by decide +kernel⟩
theorem okL_product (A : Facts K mg) (CL_clean : Cal P w K mg base (CXR P w) 1 "_law_clean" ["_law_numbers"] (spD K 1 FL_clean)) (CL_plus : Cal P w K mg base (CXR P w) 2 "_law_plus" ["_law_one", "_law_other"] (spD K 2 FL_plus)) (CL_times : Cal P w K mg base (CXR P w) 2 "_law_times" ["_law_one", "_law_other"] (spD K 2 FL_times)) (F : Fun K "_law_product" "_law_product" sL_product f fd) : FnOk P w K mg base (CXR P w) 3 f fd ["_law_one", "_law_other"] (spD K 2 FL_product) :=
  fn_ok 2 3 BL_product F scL_product rfl rfl fun cdv AA outer s H E Z =>
   (dss_cons (ds_set 2 scL_product.nd (de_bin op_rep od_rep (de_lst (dcz (de_tup (dcz diz (dcz diz dnz))) dnz)) (de_callB (call_max2 Z.cm) cd_max A.m_max PyProof.Rows.boot_max (dcz diz (dcz (de_bin op_sub od_sub (de_bin op_add od_add (de_callB call_len_seq cd_len A.m_len PySem.boot_len (dcz (dvz 0) dnz)) (de_callB call_len_seq cd_len A.m_len PySem.boot_len (dcz (dvz 1) dnz))) diz) dnz)))))
    (dss_cons (ds_for Z (di_range1 A.m_range (dcz (de_callB call_len_seq cd_len A.m_len PySem.boot_len (dcz (dvz 0) dnz)) dnz)) (dg_name 3 scL_product.nd) (dss_one (ds_for Z (di_range1 A.m_range (dcz (de_callB call_len_seq cd_len A.m_len PySem.boot_len (dcz (dvz 1) dnz)) dnz)) (dg_name 4 scL_product.nd) (dss_one (ds_put 2 (de_cal Z CL_plus (dcz (de_ix (dvz 2) (de_bin op_add od_add (dvz 3) (dvz 4))) (dcz (de_cal Z CL_times (dcz (de_ix (dvz 0) (dvz 3)) (dcz (de_ix (dvz 1) (dvz 4)) dnz))) dnz))) (de_bin op_add od_add (dvz 3) (dvz 4)))))))
    (dss_one (ds_ret (de_cal Z CL_clean (dcz (dvz 2) dnz))))))
theorem scL_sum : FnScope ["_law_one", "_law_other", "_law_size", "_law_more"] ["_law_one", "_law_other"] (defScope sL_sum) := ⟨rfl, rfl, rfl, by decide +kernel, rfl, by decide +kernel, by decide +kernel⟩
theorem okL_sum (A : Facts K mg) (CL_clean : Cal P w K mg base (CXR P w) 1 "_law_clean" ["_law_numbers"] (spD K 1 FL_clean)) (CL_plus : Cal P w K mg base (CXR P w) 2 "_law_plus" ["_law_one", "_law_other"] (spD K 2 FL_plus)) (F : Fun K "_law_sum" "_law_sum" sL_sum f fd) : FnOk P w K mg base (CXR P w) 3 f fd ["_law_one", "_law_other"] (spD K 2 FL_sum) :=
  fn_ok 2 2 BL_sum F scL_sum rfl rfl fun cdv AA outer s H E Z =>
   (dss_cons (ds_set 2 scL_sum.nd (de_callB (call_max2 Z.cm) cd_max A.m_max PyProof.Rows.boot_max (dcz (de_callB call_len_seq cd_len A.m_len PySem.boot_len (dcz (dvz 0) dnz)) (dcz (de_callB call_len_seq cd_len A.m_len PySem.boot_len (dcz (dvz 1) dnz)) dnz))))
    (dss_cons (ds_set 3 scL_sum.nd (de_lc Z (fun _ h => cell_has h) (by show compChk ["_law_one", "_law_other", "_law_size", "_law_more"] _ _ (defScope sL_sum) = true; decide +kernel) (DI.c (di_list (de_lst (dcz (dvz 0) (dcz (dvz 1) dnz))))) (fun _ _ _ _ _ Z => difs_nil) (fun _ _ _ _ _ Z => (de_fz (de_bin op_cat od_cat (de_callTy call_list_of cd_list A.m_list boot_list (dcz (dvz 0) dnz)) (de_bin op_rep od_rep (de_lst (dcz (de_tup (dcz diz (dcz diz dnz))) dnz)) (de_bin op_sub od_sub (dvz 3) (de_callB call_len_seq cd_len A.m_len PySem.boot_len (dcz (dvz 0) dnz)))))))))
    (dss_one (ds_ret (de_cal Z CL_clean (dcz (de_lc Z (fun _ h => cell_has h) (by show compChk ["_law_one", "_law_other", "_law_size", "_law_more"] _ _ (defScope sL_sum) = true; decide +kernel) (DI.c (di_range1 A.m_range (dcz (dvz 2) dnz))) (fun _ _ _ _ _ Z => difs_nil) (fun _ _ _ _ _ Z => (de_cal Z CL_plus (dcz (de_ix (de_ix (dvz 4) diz) (dvz 0)) (dcz (de_ix (de_ix (dvz 4) diz) (dvz 0)) dnz))))) dnz))))))
theorem scL_next : FnScope ["_law_curve", "_law_x", "_law_cell", "_law_smooth", "_law_more", "_law_k"] ["_law_curve", "_law_x", "_law_cell"] (defScope sL_next) := ⟨rfl, rfl, rfl, by decide +kernel, rfl, by decide +kernel, by decide +kernel⟩
theorem okL_next (A : Facts K mg) (CL_num : Cal P w K mg base (CXR P w) 1 "_law_num" ["_law_top", "_law_bottom"] (spD K 2 FL_num)) (CL_product : Cal P w K mg base (CXR P w) 3 "_law_product" ["_law_one", "_law_other"] (spD K 2 FL_product)) (CL_sum : Cal P w K mg base (CXR P w) 3 "_law_sum" ["_law_one", "_law_other"] (spD K 2 FL_sum)) (CL_times : Cal P w K mg base (CXR P w) 2 "_law_times" ["_law_one", "_law_other"] (spD K 2 FL_times)) (F : Fun K "_law_next" "_law_next" sL_next f fd) : FnOk P w K mg base (CXR P w) 4 f fd ["_law_curve", "_law_x", "_law_cell"] (spD K 3 FL_next) :=
  fn_ok 3 3 BL_next F scL_next rfl rfl fun cdv AA outer s H E Z =>
   (dss_cons (ds_set 3 scL_next.nd (de_bin op_sub od_sub (de_bin op_modN od_mod (dvz 2) diz) diz))
    (dss_cons (ds_if (dt_cmp (op_eqD Z.rm.units) od_eq (dvz 3) (de_neg diz)) (dss_one (ds_ret (de_tup (dcz (dvz 0) (dcz de_non dnz))))) dss_nil)
    (dss_cons (ds_set 4 scL_next.nd (de_tup (dcz (de_cal Z CL_num (dcz (de_bin op_add od_add diz (de_bin op_modN od_mod (de_bin op_fdivW od_fdiv (dvz 2) diz) diz)) (dcz (de_bin op_add od_add diz (de_bin op_modN od_mod (de_bin op_fdivW od_fdiv (dvz 2) diz) diz)) dnz))) dnz)))
    (dss_cons (ds_if (dt_cmp (op_eqD Z.rm.units) od_eq (de_bin op_modN od_mod (de_bin op_fdivW od_fdiv (dvz 2) diz) diz) diz) (dss_one (ds_set 4 scL_next.nd (de_cal Z CL_product (dcz (dvz 4) (dcz (de_tup (dcz (de_tup (dcz (de_neg diz) (dcz diz dnz))) dnz)) dnz))))) dss_nil)
    (dss_cons (ds_for Z (di_range1 A.m_range (dcz (de_bin op_add od_add (de_callB (call_min2 Z.cm) cd_min A.m_min PyProof.Rows.boot_min (dcz (dvz 3) (dcz diz dnz))) diz) dnz)) (dg_name 5 scL_next.nd) (dss_one (ds_set 4 scL_next.nd (de_cal Z CL_product (dcz (dvz 4) (dcz (de_tup (dcz (de_cal Z CL_times (dcz (de_tup (dcz (de_neg diz) (dcz diz dnz))) (dcz (dvz 1) dnz))) (dcz (de_tup (dcz diz (dcz diz dnz))) dnz))) dnz))))))
    (dss_one (ds_ret (de_tup (dcz (de_cal Z CL_sum (dcz (dvz 0) (dcz (dvz 4) dnz))) (dcz (de_callB (call_min2 Z.cm) cd_min A.m_min PyProof.Rows.boot_min (dcz (dvz 3) (dcz diz dnz))) dnz))))))))))
theorem scL_pieces : FnScope ["_law_script", "_law_at", "_law_most", "_law_places", "_law_size", "_law_low", "_law_curve", "_law_found", "_law_smooth", "_law_k", "_law_cell", "_law_high", "_law_how"] ["_law_script", "_law_at", "_law_most", "_law_places"] (defScope sL_pieces) := ⟨rfl, rfl, rfl, by decide +kernel, rfl, by decide +kernel, by decide +kernel⟩
theorem okL_pieces (A : Facts K mg) (CL_clean : Cal P w K mg base (CXR P w) 1 "_law_clean" ["_law_numbers"] (spD K 1 FL_clean)) (CL_cell_at : Cal P w K mg base (CXR P w) 1 "_law_cell_at" ["_law_script", "_law_k"] (spD K 2 FL_cell_at)) (CL_plus : Cal P w K mg base (CXR P w) 2 "_law_plus" ["_law_one", "_law_other"] (spD K 2 FL_plus)) (CL_next : Cal P w K mg base (CXR P w) 4 "_law_next" ["_law_curve", "_law_x", "_law_cell"] (spD K 3 FL_next)) (CL_num : Cal P w K mg base (CXR P w) 1 "_law_num" ["_law_top", "_law_bottom"] (spD K 2 FL_num)) (F : Fun K "_law_pieces" "_law_pieces" sL_pieces f fd) : FnOk P w K mg base (CXR P w) 5 f fd ["_law_script", "_law_at", "_law_most", "_law_places"] (spD K 4 FL_pieces) :=
  fn_ok 4 9 BL_pieces F scL_pieces rfl rfl fun cdv AA outer s H E Z =>
   (dss_cons (ds_set 4 scL_pieces.nd (de_bin op_add od_add diz (de_bin op_modN od_mod (de_cal Z CL_cell_at (dcz (dvz 0) (dcz (dvz 1) dnz))) (dvz 2))))
    (dss_cons (ds_set 5 scL_pieces.nd (de_ix (dvz 3) (de_bin op_modN od_mod (de_bin op_fdivW od_fdiv (de_cal Z CL_cell_at (dcz (dvz 0) (dcz (dvz 1) dnz))) diz) (de_callB call_len_seq cd_len A.m_len PySem.boot_len (dcz (dvz 3) dnz)))))
    (dss_cons (ds_set 6 scL_pieces.nd (de_cal Z CL_clean (dcz (de_lcN (N' := ["_law_script", "_law_at", "_law_most", "_law_places", "_law_size", "_law_low", "_law_curve", "_law_found", "_law_smooth", "<_law_k", "_law_cell", "_law_high", "_law_how"]) Z (fun _ h => cell_has h) (by show compChk ["_law_script", "_law_at", "_law_most", "_law_places", "_law_size", "_law_low", "_law_curve", "_law_found", "_law_smooth", "<_law_k", "_law_cell", "_law_high", "_law_how"] _ _ (defScope sL_pieces) = true; decide +kernel) (by show chkN ["_law_script", "_law_at", "_law_most", "_law_places", "_law_size", "_law_low", "_law_curve", "_law_found", "_law_smooth", "_law_k", "_law_cell", "_law_high", "_law_how"] ["_law_script", "_law_at", "_law_most", "_law_places", "_law_size", "_law_low", "_law_curve", "_law_found", "_law_smooth", "<_law_k", "_law_cell", "_law_high", "_law_how"] _ _ = true; decide +kernel) (DI.c (di_range1 A.m_range (dcz diz dnz))) (fun _ _ _ _ _ Z => difs_nil) (fun _ _ _ _ _ Z => (de_cal Z CL_num (dcz (de_bin op_sub od_sub (de_bin op_modN od_mod (de_cal Z CL_cell_at (dcz (dvz 1) (dcz (de_bin op_add od_add (de_bin op_add od_add (dvz 2) diz) (dvz 0)) dnz))) diz) diz) (dcz (de_bin op_add od_add diz (de_bin op_modN od_mod (dvz 0) diz)) dnz))))) dnz)))
    (dss_cons (ds_set 7 scL_pieces.nd (de_lst dnz))
    (dss_cons (ds_set 8 scL_pieces.nd (de_lst dnz))
    (dss_cons (ds_for Z (di_range1 A.m_range (dcz (dvz 4) dnz)) (dg_name 9 scL_pieces.nd) (dss_cons (ds_set 10 scL_pieces.nd (de_cal Z CL_cell_at (dcz (dvz 0) (dcz (de_bin op_add od_add (de_bin op_add od_add (dvz 1) diz) (dvz 9)) dnz))))
    (dss_cons (ds_set 11 scL_pieces.nd (de_cal Z CL_plus (dcz (dvz 5) (dcz (de_cal Z CL_num (dcz (de_bin op_add od_add diz (de_bin op_modN od_mod (dvz 10) diz)) (dcz (de_bin op_add od_add diz (de_bin op_modN od_mod (de_bin op_fdivW od_fdiv (dvz 10) diz) diz)) dnz))) dnz))))
    (dss_cons (ds_append 7 (de_tup (dcz (dvz 5) (dcz (dvz 11) (dcz (dvz 6) dnz)))))
    (dss_cons (ds_asg (de_cal Z CL_next (dcz (dvz 6) (dcz (dvz 11) (dcz (de_bin op_fdivW od_fdiv (dvz 10) diz) dnz)))) (dg_tup Z (dgs_cons (dg_name 6 scL_pieces.nd) (dgs_cons (dg_name 12 scL_pieces.nd) dgs_nil))))
    (dss_cons (ds_append 8 (dvz 12))
    (dss_one (ds_set 5 scL_pieces.nd (dvz 11)))))))))
    (dss_one (ds_retT (dcz (dvz 7) (dcz (de_slice sl_list sd_list (dvz 8) do_none (do_some (de_neg diz))) dnz))))))))))
theorem sc_less : FnScope ["one", "other"] ["one", "other"] (defScope s_less) := ⟨rfl, rfl, rfl, by decide +kernel, rfl, by decide +kernel, by decide +kernel⟩
theorem ok_less (A : Facts K mg) (F : Fun K "less" "less" s_less f fd) : FnOk P w K mg base (CXR P w) 1 f fd ["one", "other"] (spD K 2 F_less) :=
  fn_ok 2 0 B_less F sc_less rfl rfl fun cdv AA outer s H E Z =>
   (dss_one (ds_ret (de_cmp op_lt od_lt (de_bin op_mulW od_mul (de_ix (dvz 0) diz) (de_ix (dvz 1) diz)) (de_bin op_mulW od_mul (de_ix (dvz 1) diz) (de_ix (dvz 0) diz)))))
theorem sc_check_pieces : FnScope ["pieces"] ["pieces"] (defScope s_check_pieces) := ⟨rfl, rfl, rfl, by decide +kernel, rfl, by decide +kernel, by decide +kernel⟩
theorem ok_check_pieces (A : Facts K mg) (C_less : Cal P w K mg base (CXR P w) 1 "less" ["one", "other"] (spD K 2 F_less)) (F : Fun K "check_pieces" "check_pieces" s_check_pieces f fd) : FnOk P w K mg base (CXR P w) 2 f fd ["pieces"] (spD K 1 F_check_pieces) :=
  fn_ok 1 0 B_check_pieces F sc_check_pieces rfl rfl fun cdv AA outer s H E Z =>
   (dss_cons (ds_if (DW.pt (dw_or (dt_cmp (op_eqD Z.rm.units) od_eq (de_callB call_len_seq cd_len A.m_len PySem.boot_len (dcz (dvz 0) dnz)) diz) (dw_or1 (dt_cmp op_gt od_gt (de_callB call_len_seq cd_len A.m_len PySem.boot_len (dcz (dvz 0) dnz)) (de_const A.c_MOST_PIECES))))) (dss_one (ds_raise .NoPieces Z A.m_NoPieces A.q_NoPieces (dcz de_str dnz))) dss_nil)
    (dss_cons (ds_if (dt_not (dt_val (de_callB (call_all_bl Z.cm) cd_all A.m_all PyProof.Rows.boot_all (dcz (de_lc Z (fun _ h => cell_has h) (by show compChk ["pieces"] _ _ (defScope s_check_pieces) = true; decide +kernel) (DI.c (di_list (dvz 0))) (fun _ _ _ _ _ Z => difs_nil) (fun _ _ _ _ _ Z => (de_cal Z C_less (dcz (de_ix (dvz 0) diz) (dcz (de_ix (dvz 0) diz) dnz))))) dnz)))) (dss_one (ds_raise .NoPieces Z A.m_NoPieces A.q_NoPieces (dcz de_str dnz))) dss_nil)
    (dss_one (ds_if (dt_not (dt_val (de_callB (call_all_bl Z.cm) cd_all A.m_all PyProof.Rows.boot_all (dcz (de_lc Z (fun _ h => cell_has h) (by show compChk ["pieces"] _ _ (defScope s_check_pieces) = true; decide +kernel) (DI.c (di_range2 A.m_range (dcz diz (dcz (de_callB call_len_seq cd_len A.m_len PySem.boot_len (dcz (dvz 0) dnz)) dnz)))) (fun _ _ _ _ _ Z => difs_nil) (fun _ _ _ _ _ Z => (de_cmp (op_eqD Z.rm.units) od_eq (de_ix (de_ix (dvz 1) (dvz 0)) diz) (de_ix (de_ix (dvz 1) (de_bin op_sub od_sub (dvz 0) diz)) diz)))) dnz)))) (dss_one (ds_raise .NoPieces Z A.m_NoPieces A.q_NoPieces (dcz de_str dnz))) dss_nil))))
theorem sc_row_of : FnScope ["pieces"] ["pieces"] (defScope s_row_of) := ⟨rfl, rfl, rfl, by decide +kernel, rfl, by decide +kernel, by decide +kernel⟩
theorem ok_row_of (A : Facts K mg) (C_check_pieces : Cal P w K mg base (CXR P w) 2 "check_pieces" ["pieces"] (spD K 1 F_check_pieces)) (F : Fun K "row_of" "row_of" s_row_of f fd) : FnOk P w K mg base (CXR P w) 3 f fd ["pieces"] (spD K 1 F_row_of) :=
  fn_ok 1 0 B_row_of F sc_row_of rfl rfl fun cdv AA outer s H E Z =>
   (dss_cons (ds_expr (de_cal Z C_check_pieces (dcz (dvz 0) dnz)))
    (dss_cons (ds_if (dt_val (de_callB (call_any_bl Z.cm) cd_any A.m_any PyProof.Rows.boot_any (dcz (de_lc Z (fun _ h => cell_has h) (by show compChk ["pieces"] _ _ (defScope s_row_of) = true; decide +kernel) (DI.c (di_list (dvz 0))) (fun _ _ _ _ _ Z => difs_nil) (fun _ _ _ _ _ Z => (de_cmp op_gt od_gt (de_bin op_sub od_sub (de_callB call_len_seq cd_len A.m_len PySem.boot_len (dcz (de_ix (dvz 0) diz) dnz)) diz) (de_const A.c_MOST_DEGREE)))) dnz))) (dss_one (ds_raise .TooGreat Z A.m_TooGreat A.q_TooGreat (dcz de_str dnz))) dss_nil)
    (dss_one (ds_ret (de_callTy call_tuple_of cd_tuple A.m_tuple boot_tuple (dcz (dvz 0) dnz))))))
theorem sc_greatest_divisor : FnScope ["one", "other", "rest"] ["one", "other"] (defScope s_greatest_divisor) := ⟨rfl, rfl, rfl, by decide +kernel, rfl, by decide +kernel, by decide +kernel⟩
theorem ok_greatest_divisor (A : Facts K mg) (F : Fun K "greatest_divisor" "greatest_divisor" s_greatest_divisor f fd) : FnOk P w K mg base (CXR P w) 1 f fd ["one", "other"] (spD K 2 F_greatest_divisor) :=
  fn_ok 2 1 B_greatest_divisor F sc_greatest_divisor rfl rfl fun cdv AA outer s H E Z =>
   (dss_cons (ds_while Z (dt_cmp (op_neD Z.rm.units) od_ne (dvz 1) diz) (dss_cons (ds_set 2 sc_greatest_divisor.nd (de_bin op_modN od_mod (dvz 0) (dvz 1)))
    (dss_cons (ds_set 0 sc_greatest_divisor.nd (dvz 1))
    (dss_one (ds_set 1 sc_greatest_divisor.nd (dvz 2))))))
    (dss_one (ds_ret (de_callB call_abs cd_abs A.m_abs PyProof.Rows.boot_abs (dcz (dvz 0) dnz)))))
theorem sc_number : FnScope ["top", "bottom", "divisor"] ["top", "bottom"] (defScope s_number) := ⟨rfl, rfl, rfl, by decide +kernel, rfl, by decide +kernel, by decide +kernel⟩
theorem ok_number (A : Facts K mg) (C_greatest_divisor : Cal P w K mg base (CXR P w) 1 "greatest_divisor" ["one", "other"] (spD K 2 F_greatest_divisor)) (F : Fun K "number" "number" s_number f fd) : FnOk P w K mg base (CXR P w) 2 f fd ["top", "bottom"] (spD K 2 F_number) :=
  fn_ok 2 1 B_number F sc_number rfl rfl fun cdv AA outer s H E Z =>
   (dss_cons (ds_if (dt_cmp (op_eqD Z.rm.units) od_eq (dvz 1) diz) (dss_one (ds_raise .NoNumber Z A.m_NoNumber A.q_NoNumber (dcz de_str dnz))) dss_nil)
    (dss_cons (ds_set 2 sc_number.nd (de_cal Z C_greatest_divisor (dcz (dvz 0) (dcz (dvz 1) dnz))))
    (dss_cons (ds_if (dt_cmp op_lt od_lt (dvz 1) diz) (dss_one (ds_set 2 sc_number.nd (de_neg (dvz 2)))) dss_nil)
    (dss_one (ds_ret (de_tup (dcz (de_bin op_fdivW od_fdiv (dvz 0) (dvz 2)) (dcz (de_bin op_fdivW od_fdiv (dvz 1) (dvz 2)) dnz))))))))
theorem sc_plus : FnScope ["one", "other"] ["one", "other"] (defScope s_plus) := ⟨rfl, rfl, rfl, by decide +kernel, rfl, by decide +kernel, by decide +kernel⟩
theorem ok_plus (A : Facts K mg) (C_number : Cal P w K mg base (CXR P w) 2 "number" ["top", "bottom"] (spD K 2 F_number)) (F : Fun K "plus" "plus" s_plus f fd) : FnOk P w K mg base (CXR P w) 3 f fd ["one", "other"] (spD K 2 F_plus) :=
  fn_ok 2 0 B_plus F sc_plus rfl rfl fun cdv AA outer s H E Z =>
   (dss_one (ds_ret (de_cal Z C_number (dcz (de_bin op_add od_add (de_bin op_mulW od_mul (de_ix (dvz 0) diz) (de_ix (dvz 1) diz)) (de_bin op_mulW od_mul (de_ix (dvz 1) diz) (de_ix (dvz 0) diz))) (dcz (de_bin op_mulW od_mul (de_ix (dvz 0) diz) (de_ix (dvz 1) diz)) dnz)))))
theorem sc_minus : FnScope ["one", "other"] ["one", "other"] (defScope s_minus) := ⟨rfl, rfl, rfl, by decide +kernel, rfl, by decide +kernel, by decide +kernel⟩
theorem ok_minus (A : Facts K mg) (C_number : Cal P w K mg base (CXR P w) 2 "number" ["top", "bottom"] (spD K 2 F_number)) (F : Fun K "minus" "minus" s_minus f fd) : FnOk P w K mg base (CXR P w) 3 f fd ["one", "other"] (spD K 2 F_minus) :=
  fn_ok 2 0 B_minus F sc_minus rfl rfl fun cdv AA outer s H E Z =>
   (dss_one (ds_ret (de_cal Z C_number (dcz (de_bin op_sub od_sub (de_bin op_mulW od_mul (de_ix (dvz 0) diz) (de_ix (dvz 1) diz)) (de_bin op_mulW od_mul (de_ix (dvz 1) diz) (de_ix (dvz 0) diz))) (dcz (de_bin op_mulW od_mul (de_ix (dvz 0) diz) (de_ix (dvz 1) diz)) dnz)))))
theorem sc_times : FnScope ["one", "other"] ["one", "other"] (defScope s_times) := ⟨rfl, rfl, rfl, by decide +kernel, rfl, by decide +kernel, by decide +kernel⟩
theorem ok_times (A : Facts K mg) (C_number : Cal P w K mg base (CXR P w) 2 "number" ["top", "bottom"] (spD K 2 F_number)) (F : Fun K "times" "times" s_times f fd) : FnOk P w K mg base (CXR P w) 3 f fd ["one", "other"] (spD K 2 F_times) :=
  fn_ok 2 0 B_times F sc_times rfl rfl fun cdv AA outer s H E Z =>
   (dss_one (ds_ret (de_cal Z C_number (dcz (de_bin op_mulW od_mul (de_ix (dvz 0) diz) (de_ix (dvz 1) diz)) (dcz (de_bin op_mulW od_mul (de_ix (dvz 0) diz) (de_ix (dvz 1) diz)) dnz)))))
theorem sc_moved : FnScope ["curve", "c", "found", "done", "place"] ["curve", "c"] (defScope s_moved) := ⟨rfl, rfl, rfl, by decide +kernel, rfl, by decide +kernel, by decide +kernel⟩
theorem ok_moved (A : Facts K mg) (C_minus : Cal P w K mg base (CXR P w) 3 "minus" ["one", "other"] (spD K 2 F_minus)) (C_times : Cal P w K mg base (CXR P w) 3 "times" ["one", "other"] (spD K 2 F_times)) (F : Fun K "moved" "moved" s_moved f fd) : FnOk P w K mg base (CXR P w) 4 f fd ["curve", "c"] (spD K 2 F_moved) :=
  fn_ok 2 3 B_moved F sc_moved rfl rfl fun cdv AA outer s H E Z =>
   (dss_cons (ds_set 2 sc_moved.nd (de_callTy call_list_of cd_list A.m_list boot_list (dcz (dvz 0) dnz)))
    (dss_cons (ds_for Z (di_range1 A.m_range (dcz (de_callB call_len_seq cd_len A.m_len PySem.boot_len (dcz (dvz 0) dnz)) dnz)) (dg_name 3 sc_moved.nd) (dss_one (ds_for Z (di_range3 A.m_range (dcz (de_bin op_sub od_sub (de_callB call_len_seq cd_len A.m_len PySem.boot_len (dcz (dvz 0) dnz)) diz) (dcz (de_bin op_sub od_sub (dvz 3) diz) (dcz (de_neg diz) dnz)))) (dg_name 4 sc_moved.nd) (dss_one (ds_put 2 (de_cal Z C_minus (dcz (de_ix (dvz 2) (dvz 4)) (dcz (de_cal Z C_times (dcz (dvz 1) (dcz (de_ix (dvz 2) (de_bin op_add od_add (dvz 4) diz)) dnz))) dnz))) (dvz 4))))))
    (dss_one (ds_ret (de_callTy call_tuple_of cd_tuple A.m_tuple boot_tuple (dcz (dvz 2) dnz))))))
theorem sc_row_moved : FnScope ["row", "c"] ["row", "c"] (defScope s_row_moved) := ⟨rfl, rfl, rfl, by decide +kernel, rfl, by decide +kernel, by decide +kernel⟩
theorem ok_row_moved (A : Facts K mg) (C_plus : Cal P w K mg base (CXR P w) 3 "plus" ["one", "other"] (spD K 2 F_plus)) (C_moved : Cal P w K mg base (CXR P w) 4 "moved" ["curve", "c"] (spD K 2 F_moved)) (F : Fun K "row_moved" "row_moved" s_row_moved f fd) : FnOk P w K mg base (CXR P w) 5 f fd ["row", "c"] (spD K 2 F_row_moved) :=
  fn_ok 2 0 B_row_moved F sc_row_moved rfl rfl fun cdv AA outer s H E Z =>
   (dss_one (ds_ret (de_callTy call_tuple_of cd_tuple A.m_tuple boot_tuple (dcz (de_lc Z (fun _ h => cell_has h) (by show compChk ["row", "c"] _ _ (defScope s_row_moved) = true; decide +kernel) (DI.c (di_tup (dvz 0))) (fun _ _ _ _ _ Z => difs_nil) (fun _ _ _ _ _ Z => (de_tup (dcz (de_cal Z C_plus (dcz (de_ix (dvz 0) diz) (dcz (dvz 2) dnz))) (dcz (de_cal Z C_plus (dcz (de_ix (dvz 0) diz) (dcz (dvz 2) dnz))) (dcz (de_cal Z C_moved (dcz (de_ix (dvz 0) diz) (dcz (dvz 2) dnz))) dnz)))))) dnz))))
theorem sc_sign : FnScope ["one"] ["one"] (defScope s_sign) := ⟨rfl, rfl, rfl, by decide +kernel, rfl, by decide +kernel, by decide +kernel⟩
theorem ok_sign (A : Facts K mg) (F : Fun K "sign" "sign" s_sign f fd) : FnOk P w K mg base (CXR P w) 1 f fd ["one"] (spD K 1 F_sign) :=
  fn_ok 1 0 B_sign F sc_sign rfl rfl fun cdv AA outer s H E Z =>
   (dss_cons (ds_if (dt_cmp op_gt od_gt (de_ix (dvz 0) diz) diz) (dss_one (ds_ret diz)) dss_nil)
    (dss_cons (ds_if (dt_cmp op_lt od_lt (de_ix (dvz 0) diz) diz) (dss_one (ds_ret (de_neg diz))) dss_nil)
    (dss_one (ds_ret diz))))
theorem sc_over : FnScope ["one", "other"] ["one", "other"] (defScope s_over) := ⟨rfl, rfl, rfl, by decide +kernel, rfl, by decide +kernel, by decide +kernel⟩
theorem ok_over (A : Facts K mg) (C_number : Cal P w K mg base (CXR P w) 2 "number" ["top", "bottom"] (spD K 2 F_number)) (F : Fun K "over" "over" s_over f fd) : FnOk P w K mg base (CXR P w) 3 f fd ["one", "other"] (spD K 2 F_over) :=
  fn_ok 2 0 B_over F sc_over rfl rfl fun cdv AA outer s H E Z =>
   (dss_one (ds_ret (de_cal Z C_number (dcz (de_bin op_mulW od_mul (de_ix (dvz 0) diz) (de_ix (dvz 1) diz)) (dcz (de_bin op_mulW od_mul (de_ix (dvz 0) diz) (de_ix (dvz 1) diz)) dnz)))))
theorem sc_stretched : FnScope ["curve", "k", "found", "power", "one"] ["curve", "k"] (defScope s_stretched) := ⟨rfl, rfl, rfl, by decide +kernel, rfl, by decide +kernel, by decide +kernel⟩
theorem ok_stretched (A : Facts K mg) (C_sign : Cal P w K mg base (CXR P w) 1 "sign" ["one"] (spD K 1 F_sign)) (C_times : Cal P w K mg base (CXR P w) 3 "times" ["one", "other"] (spD K 2 F_times)) (C_over : Cal P w K mg base (CXR P w) 3 "over" ["one", "other"] (spD K 2 F_over)) (F : Fun K "stretched" "stretched" s_stretched f fd) : FnOk P w K mg base (CXR P w) 4 f fd ["curve", "k"] (spD K 2 F_stretched) :=
  fn_ok 2 3 B_stretched F sc_stretched rfl rfl fun cdv AA outer s H E Z =>
   (dss_cons (ds_if (dt_cmp (op_eqD Z.rm.units) od_eq (de_cal Z C_sign (dcz (dvz 1) dnz)) diz) (dss_one (ds_raise .NoNumber Z A.m_NoNumber A.q_NoNumber (dcz de_str dnz))) dss_nil)
    (dss_cons (ds_set 2 sc_stretched.nd (de_lst dnz))
    (dss_cons (ds_set 3 sc_stretched.nd (de_const A.c_ONE))
    (dss_cons (ds_for Z (di_tup (dvz 0)) (dg_name 4 sc_stretched.nd) (dss_cons (ds_append 2 (de_cal Z C_over (dcz (dvz 4) (dcz (dvz 3) dnz))))
    (dss_one (ds_set 3 sc_stretched.nd (de_cal Z C_times (dcz (dvz 3) (dcz (dvz 1) dnz)))))))
    (dss_one (ds_ret (de_callTy call_tuple_of cd_tuple A.m_tuple boot_tuple (dcz (dvz 2) dnz))))))))
theorem sc_row_stretched : FnScope ["row", "k"] ["row", "k"] (defScope s_row_stretched) := ⟨rfl, rfl, rfl, by decide +kernel, rfl, by decide +kernel, by decide +kernel⟩
theorem ok_row_stretched (A : Facts K mg) (C_sign : Cal P w K mg base (CXR P w) 1 "sign" ["one"] (spD K 1 F_sign)) (C_times : Cal P w K mg base (CXR P w) 3 "times" ["one", "other"] (spD K 2 F_times)) (C_stretched : Cal P w K mg base (CXR P w) 4 "stretched" ["curve", "k"] (spD K 2 F_stretched)) (F : Fun K "row_stretched" "row_stretched" s_row_stretched f fd) : FnOk P w K mg base (CXR P w) 5 f fd ["row", "k"] (spD K 2 F_row_stretched) :=
  fn_ok 2 0 B_row_stretched F sc_row_stretched rfl rfl fun cdv AA outer s H E Z =>
   (dss_cons (ds_if (dt_cmp op_le od_le (de_cal Z C_sign (dcz (dvz 1) dnz)) diz) (dss_one (ds_raise .NoNumber Z A.m_NoNumber A.q_NoNumber (dcz de_str dnz))) dss_nil)
    (dss_one (ds_ret (de_callTy call_tuple_of cd_tuple A.m_tuple boot_tuple (dcz (de_lc Z (fun _ h => cell_has h) (by show compChk ["row", "k"] _ _ (defScope s_row_stretched) = true; decide +kernel) (DI.c (di_tup (dvz 0))) (fun _ _ _ _ _ Z => difs_nil) (fun _ _ _ _ _ Z => (de_tup (dcz (de_cal Z C_times (dcz (de_ix (dvz 0) diz) (dcz (dvz 2) dnz))) (dcz (de_cal Z C_times (dcz (de_ix (dvz 0) diz) (dcz (dvz 2) dnz))) (dcz (de_cal Z C_stretched (dcz (de_ix (dvz 0) diz) (dcz (dvz 2) dnz))) dnz)))))) dnz)))))
theorem scL_plain : FnScope ["_law_pieces_here", "_law_found", "_law_low", "_law_high", "_law_curve"] ["_law_pieces_here"] (defScope sL_plain) := ⟨rfl, rfl, rfl, by decide +kernel, rfl, by decide +kernel, by decide +kernel⟩
theorem okL_plain (A : Facts K mg) (F : Fun K "_law_plain" "_law_plain" sL_plain f fd) : FnOk P w K mg base (CXR P w) 1 f fd ["_law_pieces_here"] (spD K 1 FL_plain) :=
  fn_ok 1 4 BL_plain F scL_plain rfl rfl fun cdv AA outer s H E Z =>
   (dss_cons (ds_set 1 scL_plain.nd (de_lst dnz))
    (dss_cons (ds_frz 0 (ds_for Z (di_list (dvz 0)) (dg_tup Z (dgs_cons (dg_name 2 scL_plain.nd) (dgs_cons (dg_name 3 scL_plain.nd) (dgs_cons (dg_name 4 scL_plain.nd) dgs_nil)))) (dss_cons (ds_if (DW.pt (dw_and (dt_cmp (op_neD Z.rm.units) od_ne (dvz 1) (de_lst dnz)) (dw_and1 (dt_cmp (op_eqD Z.rm.units) od_eq (de_ix (de_ix (dvz 1) (de_neg diz)) diz) (dvz 4))))) (dss_one (ds_popIx 2 1 scL_plain.nd)) dss_nil)
    (dss_one (ds_append 1 (de_tup (dcz (dvz 2) (dcz (dvz 3) (dcz (dvz 4) dnz)))))))))
    (dss_one (ds_ret (de_callTy call_tuple_of cd_tuple A.m_tuple boot_tuple (dcz (dvz 1) dnz))))))
theorem scL_refused : FnScope ["_law_row", "_law_k", "_law_clean_here", "e"] ["_law_row", "_law_k"] (defScope sL_refused) := ⟨rfl, rfl, rfl, by decide +kernel, rfl, by decide +kernel, by decide +kernel⟩
theorem okL_refused (A : Facts K mg) (C_row_stretched : Cal P w K mg base (CXR P w) 5 "row_stretched" ["row", "k"] (spD K 2 F_row_stretched)) (F : Fun K "_law_refused" "_law_refused" sL_refused f fd) : FnOk P w K mg base (CXR P w) 6 f fd ["_law_row", "_law_k"] (spD K 2 FL_refused) :=
  fn_ok 2 2 BL_refused F scL_refused rfl rfl fun cdv AA outer s H E Z =>
   (dss_cons (ds_set 2 scL_refused.nd de_non)
    (dss_cons (ds_tryE 3 Z C_row_stretched A.ck_BelowError A.m_BelowError (dcz (dvz 0) (dcz (dvz 1) dnz)) (fun _ _ => (dss_cons (ds_set 2 scL_refused.nd (de_not (de_isT A.m_isinstance A.ik0 (by show 8 ≤ sizeLine; decide) (dvz 3) (pa_cons (pe_glob (v := .ref (ecx .NoCurve)) rfl A.m_NoCurve rfl) (pa_cons (pe_glob (v := .ref (ecx .NoName)) rfl A.m_NoName rfl) (pa_cons (pe_glob (v := .ref (ecx .NoNear)) rfl A.m_NoNear rfl) (pa_cons (pe_glob (v := .ref (ecx .NoPieces)) rfl A.m_NoPieces rfl) (pa_cons (pe_glob (v := .ref (ecx .NoRow)) rfl A.m_NoRow rfl) (pa_cons (pe_glob (v := .ref (ecx .NoStretch)) rfl A.m_NoStretch rfl) (pa_cons (pe_glob (v := .ref (ecx .NoText)) rfl A.m_NoText rfl) (pa_cons (pe_glob (v := .ref (ecx .TooGreat)) rfl A.m_TooGreat rfl) pa_nil)))))))))))
    (dss_one (ds_set 2 scL_refused.nd (de_and (dvz 2) (de_and (de_isi A.m_isinstance A.ik_NoNumber (dvz 3) (pe_glob (v := .ref (ecx .NoNumber)) rfl A.m_NoNumber rfl)) (de_one (de_isi A.m_isinstance A.ik_ValueError (dvz 3) (pe_bltn (v := .ty "ValueError") rfl A.m_ValueError boot_ValueError rfl))))))))) rfl rfl)
    (dss_one (ds_ret (de_cmp op_isB od_isB (dvz 2) de_bl)))))
theorem sc_curve_of : FnScope ["numbers", "size"] ["numbers"] (defScope s_curve_of) := ⟨rfl, rfl, rfl, by decide +kernel, rfl, by decide +kernel, by decide +kernel⟩
theorem ok_curve_of (A : Facts K mg) (C_sign : Cal P w K mg base (CXR P w) 1 "sign" ["one"] (spD K 1 F_sign)) (F : Fun K "curve_of" "curve_of" s_curve_of f fd) : FnOk P w K mg base (CXR P w) 2 f fd ["numbers"] (spD K 1 F_curve_of) :=
  fn_ok 1 1 B_curve_of F sc_curve_of rfl rfl fun cdv AA outer s H E Z =>
   (dss_cons (ds_set 1 sc_curve_of.nd (de_callB call_len_seq cd_len A.m_len PySem.boot_len (dcz (dvz 0) dnz)))
    (dss_cons (ds_while Z (DW.pt (dw_and (dt_cmp op_gt od_gt (dvz 1) diz) (dw_and1 (dt_cmp (op_eqD Z.rm.units) od_eq (de_cal Z C_sign (dcz (de_ix (dvz 0) (de_bin op_sub od_sub (dvz 1) diz)) dnz)) diz)))) (dss_one (ds_set 1 sc_curve_of.nd (de_bin op_sub od_sub (dvz 1) diz))))
    (dss_cons (ds_if (dt_cmp op_gt od_gt (dvz 1) (de_const A.c_MOST_NUMBERS)) (dss_one (ds_raise .TooGreat Z A.m_TooGreat A.q_TooGreat (dcz de_str dnz))) dss_nil)
    (dss_one (ds_ret (de_callTy call_tuple_of cd_tuple A.m_tuple boot_tuple (dcz (de_slice sl_list sd_list (dvz 0) do_none (do_some (dvz 1))) dnz)))))))
theorem sc_number_at : FnScope ["curve", "place"] ["curve", "place"] (defScope s_number_at) := ⟨rfl, rfl, rfl, by decide +kernel, rfl, by decide +kernel, by decide +kernel⟩
theorem ok_number_at (A : Facts K mg) (F : Fun K "number_at" "number_at" s_number_at f fd) : FnOk P w K mg base (CXR P w) 1 f fd ["curve", "place"] (spD K 2 F_number_at) :=
  fn_ok 2 0 B_number_at F sc_number_at rfl rfl fun cdv AA outer s H E Z =>
   (dss_cons (ds_if (dt_cmp op_lt od_lt (dvz 1) (de_callB call_len_seq cd_len A.m_len PySem.boot_len (dcz (dvz 0) dnz))) (dss_one (ds_ret (de_ix (dvz 0) (dvz 1)))) dss_nil)
    (dss_one (ds_ret (de_const A.c_NOUGHT))))
theorem sc_taken : FnScope ["one", "other", "size"] ["one", "other"] (defScope s_taken) := ⟨rfl, rfl, rfl, by decide +kernel, rfl, by decide +kernel, by decide +kernel⟩
theorem ok_taken (A : Facts K mg) (C_curve_of : Cal P w K mg base (CXR P w) 2 "curve_of" ["numbers"] (spD K 1 F_curve_of)) (C_minus : Cal P w K mg base (CXR P w) 3 "minus" ["one", "other"] (spD K 2 F_minus)) (C_number_at : Cal P w K mg base (CXR P w) 1 "number_at" ["curve", "place"] (spD K 2 F_number_at)) (F : Fun K "taken" "taken" s_taken f fd) : FnOk P w K mg base (CXR P w) 4 f fd ["one", "other"] (spD K 2 F_taken) :=
  fn_ok 2 1 B_taken F sc_taken rfl rfl fun cdv AA outer s H E Z =>
   (dss_cons (ds_set 2 sc_taken.nd (de_callB (call_max2 Z.cm) cd_max A.m_max PyProof.Rows.boot_max (dcz (de_callB call_len_seq cd_len A.m_len PySem.boot_len (dcz (dvz 0) dnz)) (dcz (de_callB call_len_seq cd_len A.m_len PySem.boot_len (dcz (dvz 1) dnz)) dnz))))
    (dss_one (ds_ret (de_cal Z C_curve_of (dcz (de_lc Z (fun _ h => cell_has h) (by show compChk ["one", "other", "size"] _ _ (defScope s_taken) = true; decide +kernel) (DI.c (di_range1 A.m_range (dcz (dvz 2) dnz))) (fun _ _ _ _ _ Z => difs_nil) (fun _ _ _ _ _ Z => (de_cal Z C_minus (dcz (de_cal Z C_number_at (dcz (dvz 1) (dcz (dvz 0) dnz))) (dcz (de_cal Z C_number_at (dcz (dvz 2) (dcz (dvz 0) dnz))) dnz))))) dnz)))))
theorem sc_slope : FnScope ["curve"] ["curve"] (defScope s_slope) := ⟨rfl, rfl, rfl, by decide +kernel, rfl, by decide +kernel, by decide +kernel⟩
theorem ok_slope (A : Facts K mg) (C_times : Cal P w K mg base (CXR P w) 3 "times" ["one", "other"] (spD K 2 F_times)) (C_number : Cal P w K mg base (CXR P w) 2 "number" ["top", "bottom"] (spD K 2 F_number)) (F : Fun K "slope" "slope" s_slope f fd) : FnOk P w K mg base (CXR P w) 4 f fd ["curve"] (spD K 1 F_slope) :=
  fn_ok 1 0 B_slope F sc_slope rfl rfl fun cdv AA outer s H E Z =>
   (dss_one (ds_ret (de_callTy call_tuple_of cd_tuple A.m_tuple boot_tuple (dcz (de_lc Z (fun _ h => cell_has h) (by show compChk ["curve"] _ _ (defScope s_slope) = true; decide +kernel) (DI.c (di_range2 A.m_range (dcz diz (dcz (de_callB call_len_seq cd_len A.m_len PySem.boot_len (dcz (dvz 0) dnz)) dnz)))) (fun _ _ _ _ _ Z => difs_nil) (fun _ _ _ _ _ Z => (de_cal Z C_times (dcz (de_ix (dvz 1) (dvz 0)) (dcz (de_cal Z C_number (dcz (dvz 0) (dcz diz dnz))) dnz))))) dnz))))
theorem sc_worth : FnScope ["curve", "x", "found", "one"] ["curve", "x"] (defScope s_worth) := ⟨rfl, rfl, rfl, by decide +kernel, rfl, by decide +kernel, by decide +kernel⟩
theorem ok_worth (A : Facts K mg) (C_plus : Cal P w K mg base (CXR P w) 3 "plus" ["one", "other"] (spD K 2 F_plus)) (C_times : Cal P w K mg base (CXR P w) 3 "times" ["one", "other"] (spD K 2 F_times)) (F : Fun K "worth" "worth" s_worth f fd) : FnOk P w K mg base (CXR P w) 4 f fd ["curve", "x"] (spD K 2 F_worth) :=
  fn_ok 2 2 B_worth F sc_worth rfl rfl fun cdv AA outer s H E Z =>
   (dss_cons (ds_set 2 sc_worth.nd (de_const A.c_NOUGHT))
    (dss_cons (ds_for Z (di_revT A.m_reversed (dvz 0)) (dg_name 3 sc_worth.nd) (dss_one (ds_set 2 sc_worth.nd (de_cal Z C_plus (dcz (de_cal Z C_times (dcz (dvz 2) (dcz (dvz 1) dnz))) (dcz (dvz 3) dnz))))))
    (dss_one (ds_ret (dvz 2)))))
theorem sc_smooth_at : FnScope ["one", "other", "joint", "left", "found"] ["one", "other", "joint"] (defScope s_smooth_at) := ⟨rfl, rfl, rfl, by decide +kernel, rfl, by decide +kernel, by decide +kernel⟩
theorem ok_smooth_at (A : Facts K mg) (C_taken : Cal P w K mg base (CXR P w) 4 "taken" ["one", "other"] (spD K 2 F_taken)) (C_sign : Cal P w K mg base (CXR P w) 1 "sign" ["one"] (spD K 1 F_sign)) (C_slope : Cal P w K mg base (CXR P w) 4 "slope" ["curve"] (spD K 1 F_slope)) (C_worth : Cal P w K mg base (CXR P w) 4 "worth" ["curve", "x"] (spD K 2 F_worth)) (F : Fun K "smooth_at" "smooth_at" s_smooth_at f fd) : FnOk P w K mg base (CXR P w) 5 f fd ["one", "other", "joint"] (spD K 3 F_smooth_at) :=
  fn_ok 3 2 B_smooth_at F sc_smooth_at rfl rfl fun cdv AA outer s H E Z =>
   (dss_cons (ds_set 3 sc_smooth_at.nd (de_cal Z C_taken (dcz (dvz 0) (dcz (dvz 1) dnz))))
    (dss_cons (ds_if (dt_cmp (op_eqD Z.rm.units) od_eq (de_callB call_len_seq cd_len A.m_len PySem.boot_len (dcz (dvz 3) dnz)) diz) (dss_one (ds_ret de_non)) dss_nil)
    (dss_cons (ds_set 4 sc_smooth_at.nd (de_neg diz))
    (dss_cons (ds_while Z (dt_cmp (op_eqD Z.rm.units) od_eq (de_cal Z C_sign (dcz (de_cal Z C_worth (dcz (dvz 3) (dcz (dvz 2) dnz))) dnz)) diz) (dss_cons (ds_set 4 sc_smooth_at.nd (de_bin op_add od_add (dvz 4) diz))
    (dss_one (ds_set 3 sc_smooth_at.nd (de_cal Z C_slope (dcz (dvz 3) dnz))))))
    (dss_one (ds_ret (dvz 4)))))))
theorem sc_smoothness : FnScope ["row"] ["row"] (defScope s_smoothness) := ⟨rfl, rfl, rfl, by decide +kernel, rfl, by decide +kernel, by decide +kernel⟩
theorem ok_smoothness (A : Facts K mg) (C_smooth_at : Cal P w K mg base (CXR P w) 5 "smooth_at" ["one", "other", "joint"] (spD K 3 F_smooth_at)) (F : Fun K "smoothness" "smoothness" s_smoothness f fd) : FnOk P w K mg base (CXR P w) 6 f fd ["row"] (spD K 1 F_smoothness) :=
  fn_ok 1 0 B_smoothness F sc_smoothness rfl rfl fun cdv AA outer s H E Z =>
   (dss_one (ds_ret (de_lc Z (fun _ h => cell_has h) (by show compChk ["row"] _ _ (defScope s_smoothness) = true; decide +kernel) (DI.c (di_range2 A.m_range (dcz diz (dcz (de_callB call_len_seq cd_len A.m_len PySem.boot_len (dcz (dvz 0) dnz)) dnz)))) (fun _ _ _ _ _ Z => difs_nil) (fun _ _ _ _ _ Z => (de_cal Z C_smooth_at (dcz (de_ix (de_ix (dvz 1) (de_bin op_sub od_sub (dvz 0) diz)) diz) (dcz (de_ix (de_ix (dvz 1) (dvz 0)) diz) (dcz (de_ix (de_ix (dvz 1) (dvz 0)) diz) dnz))))))))
theorem scL_worth_of : FnScope ["_law_curve", "_law_x", "_law_total", "_law_one"] ["_law_curve", "_law_x"] (defScope sL_worth_of) := ⟨rfl, rfl, rfl, by decide +kernel, rfl, by decide +kernel, by decide +kernel⟩
theorem okL_worth_of (A : Facts K mg) (CL_plus : Cal P w K mg base (CXR P w) 2 "_law_plus" ["_law_one", "_law_other"] (spD K 2 FL_plus)) (CL_times : Cal P w K mg base (CXR P w) 2 "_law_times" ["_law_one", "_law_other"] (spD K 2 FL_times)) (F : Fun K "_law_worth_of" "_law_worth_of" sL_worth_of f fd) : FnOk P w K mg base (CXR P w) 3 f fd ["_law_curve", "_law_x"] (spD K 2 FL_worth_of) :=
  fn_ok 2 2 BL_worth_of F scL_worth_of rfl rfl fun cdv AA outer s H E Z =>
   (dss_cons (ds_set 2 scL_worth_of.nd (de_tup (dcz diz (dcz diz dnz))))
    (dss_cons (ds_for Z (di_revT A.m_reversed (dvz 0)) (dg_name 3 scL_worth_of.nd) (dss_one (ds_set 2 scL_worth_of.nd (de_cal Z CL_plus (dcz (de_cal Z CL_times (dcz (dvz 2) (dcz (dvz 1) dnz))) (dcz (dvz 3) dnz))))))
    (dss_one (ds_ret (dvz 2)))))
theorem scL_led : FnScope ["_law_pieces_here", "_law_row", "_law_smooth", "_law_by", "_law_how", "_law_k", "_law_x", "_law_low", "_law_high", "_law_curve"] ["_law_pieces_here", "_law_row", "_law_smooth", "_law_by", "_law_how"] (defScope sL_led) := ⟨rfl, rfl, rfl, by decide +kernel, rfl, by decide +kernel, by decide +kernel⟩
theorem okL_led (A : Facts K mg) (C_smoothness : Cal P w K mg base (CXR P w) 6 "smoothness" ["row"] (spD K 1 F_smoothness)) (CL_times : Cal P w K mg base (CXR P w) 2 "_law_times" ["_law_one", "_law_other"] (spD K 2 FL_times)) (CL_plus : Cal P w K mg base (CXR P w) 2 "_law_plus" ["_law_one", "_law_other"] (spD K 2 FL_plus)) (CL_worth_of : Cal P w K mg base (CXR P w) 3 "_law_worth_of" ["_law_curve", "_law_x"] (spD K 2 FL_worth_of)) (F : Fun K "_law_led" "_law_led" sL_led f fd) : FnOk P w K mg base (CXR P w) 7 f fd ["_law_pieces_here", "_law_row", "_law_smooth", "_law_by", "_law_how"] (spV K 4 FL_led) :=
  fn_okV 4 5 BL_led F scL_led rfl rfl fun cdv AA outer s H E Z =>
   (dss_cons (ds_if (DW.pt (dw_or (dt_not (dt_val (de_isi A.m_isinstance A.ik_tuple (dvz 1) (pe_bltn (v := .ty "tuple") rfl A.m_tuple PyProof.Rows.boot_tuple rfl)))) (dw_or (dt_cmp (op_neD Z.rm.units) od_ne (de_callB call_len_seq cd_len A.m_len PySem.boot_len (dcz (dvz 1) dnz)) (de_callB call_len_seq cd_len A.m_len PySem.boot_len (dcz (dvz 0) dnz))) (dw_or1 (dt_cmp (op_neD Z.rm.units) od_ne (de_cal Z C_smoothness (dcz (dvz 1) dnz)) (dvz 2)))))) (dss_one (ds_ret de_bl)) dss_nil)
    (dss_cons (ds_for Z (di_range1 A.m_range (dcz (de_callB call_len_seq cd_len A.m_len PySem.boot_len (dcz (dvz 0) dnz)) dnz)) (dg_name 5 scL_led.nd) (dss_cons (ds_asg (de_ix (dvz 0) (dvz 5)) (dg_tup Z (dgs_cons (dg_name 7 scL_led.nd) (dgs_cons (dg_name 8 scL_led.nd) (dgs_cons (dg_name 9 scL_led.nd) dgs_nil)))))
    (dss_cons (ds_if (dt_cmp (op_neD Z.rm.units) od_ne (de_slice sl_tupW sd_tup (de_ix (dvz 1) (dvz 5)) do_none (do_some diz)) (de_tup (dcz (de_calL 4 Z CL_plus CL_times A.m__law_plus A.m__law_times (dcz (dvz 7) (dcz (dvz 3) dnz))) (dcz (de_calL 4 Z CL_plus CL_times A.m__law_plus A.m__law_times (dcz (dvz 8) (dcz (dvz 3) dnz))) dnz)))) (dss_one (ds_ret de_bl)) dss_nil)
    (dss_one (ds_for Z (di_list (de_lst (dcz (dvz 7) (dcz (de_cal Z CL_times (dcz (de_cal Z CL_plus (dcz (dvz 7) (dcz (dvz 8) dnz))) (dcz (de_tup (dcz diz (dcz diz dnz))) dnz))) (dcz (de_cal Z CL_plus (dcz (dvz 7) (dcz (de_tup (dcz diz (dcz diz dnz))) dnz))) dnz))))) (dg_name 6 scL_led.nd) (dss_one (ds_if (dt_cmp (op_neD Z.rm.units) od_ne (de_cal Z CL_worth_of (dcz (de_ix (de_ix (dvz 1) (dvz 5)) diz) (dcz (de_calL 4 Z CL_plus CL_times A.m__law_plus A.m__law_times (dcz (dvz 6) (dcz (dvz 3) dnz))) dnz))) (de_cal Z CL_worth_of (dcz (dvz 9) (dcz (dvz 6) dnz)))) (dss_one (ds_ret de_bl)) dss_nil)))))))
    (dss_one (ds_ret de_bl))))
theorem sc_plainest : FnScope ["row", "found", "piece"] ["row"] (defScope s_plainest) := ⟨rfl, rfl, rfl, by decide +kernel, rfl, by decide +kernel, by decide +kernel⟩
theorem ok_plainest (A : Facts K mg) (F : Fun K "plainest" "plainest" s_plainest f fd) : FnOk P w K mg base (CXR P w) 1 f fd ["row"] (spD K 1 F_plainest) :=
  fn_ok 1 2 B_plainest F sc_plainest rfl rfl fun cdv AA outer s H E Z =>
   (dss_cons (ds_set 1 sc_plainest.nd (de_lst dnz))
    (dss_cons (ds_for Z (di_tup (dvz 0)) (dg_name 2 sc_plainest.nd) (dss_one (ds_if (DW.pt (dw_and (dt_cmp op_gt od_gt (de_callB call_len_seq cd_len A.m_len PySem.boot_len (dcz (dvz 1) dnz)) diz) (dw_and1 (dt_cmp (op_eqD Z.rm.units) od_eq (de_ix (de_ix (dvz 1) (de_neg diz)) diz) (de_ix (dvz 2) diz))))) (dss_one (ds_put 1 (de_tup (dcz (de_ix (de_ix (dvz 1) (de_neg diz)) diz) (dcz (de_ix (dvz 2) diz) (dcz (de_ix (dvz 2) diz) dnz)))) (de_neg diz))) (dss_one (ds_append 1 (dvz 2))))))
    (dss_one (ds_ret (de_callTy call_tuple_of cd_tuple A.m_tuple boot_tuple (dcz (dvz 1) dnz))))))
theorem sc_row_worth : FnScope ["row", "x", "begun"] ["row", "x"] (defScope s_row_worth) := ⟨rfl, rfl, rfl, by decide +kernel, rfl, by decide +kernel, by decide +kernel⟩
theorem ok_row_worth (A : Facts K mg) (C_worth : Cal P w K mg base (CXR P w) 4 "worth" ["curve", "x"] (spD K 2 F_worth)) (C_less : Cal P w K mg base (CXR P w) 1 "less" ["one", "other"] (spD K 2 F_less)) (F : Fun K "row_worth" "row_worth" s_row_worth f fd) : FnOk P w K mg base (CXR P w) 5 f fd ["row", "x"] (spD K 2 F_row_worth) :=
  fn_ok 2 1 B_row_worth F sc_row_worth rfl rfl fun cdv AA outer s H E Z =>
   (dss_cons (ds_if (DW.pt (dw_or (dt_val (de_cal Z C_less (dcz (dvz 1) (dcz (de_ix (de_ix (dvz 0) diz) diz) dnz)))) (dw_or1 (dt_val (de_cal Z C_less (dcz (de_ix (de_ix (dvz 0) (de_neg diz)) diz) (dcz (dvz 1) dnz))))))) (dss_one (ds_raise .NoStretch Z A.m_NoStretch A.q_NoStretch (dcz de_str dnz))) dss_nil)
    (dss_cons (ds_lcA 2 Z (fun _ h => cell_has h) (by show compChk ["row", "x", "begun"] _ _ (defScope s_row_worth) = true; decide +kernel) (DI.c (di_tup (dvz 0))) (fun _ _ _ _ _ Z => (difs_one (dt_not (dt_val (de_cal Z C_less (dcz (dvz 2) (dcz (de_ix (dvz 0) diz) dnz))))))) (fun _ _ _ _ _ Z => (dvz 0)))
    (dss_one (ds_ret (de_cal Z C_worth (dcz (de_ix (de_ix (dvz 2) (de_neg diz)) diz) (dcz (dvz 1) dnz)))))))
theorem sc_law : FnScope ["_law_script", "_law_most", "_law_row", "_law_c", "_law_k", "_law_one", "_law_other", "_law_due", "_law_pieces_here", "_law_smooth"] ["_law_script"] (defScope s_law) := ⟨rfl, rfl, rfl, by decide +kernel, rfl, by decide +kernel, by decide +kernel⟩
theorem ok_law (A : Facts K mg) (CL_pieces : Cal P w K mg base (CXR P w) 5 "_law_pieces" ["_law_script", "_law_at", "_law_most", "_law_places"] (spD K 4 FL_pieces)) (C_row_of : Cal P w K mg base (CXR P w) 3 "row_of" ["pieces"] (spD K 1 F_row_of)) (CL_num : Cal P w K mg base (CXR P w) 1 "_law_num" ["_law_top", "_law_bottom"] (spD K 2 FL_num)) (C_row_moved : Cal P w K mg base (CXR P w) 5 "row_moved" ["row", "c"] (spD K 2 F_row_moved)) (C_row_stretched : Cal P w K mg base (CXR P w) 5 "row_stretched" ["row", "k"] (spD K 2 F_row_stretched)) (CL_plain : Cal P w K mg base (CXR P w) 1 "_law_plain" ["_law_pieces_here"] (spD K 1 FL_plain)) (CL_refused : Cal P w K mg base (CXR P w) 6 "_law_refused" ["_law_row", "_law_k"] (spD K 2 FL_refused)) (CL_led : Cal P w K mg base (CXR P w) 7 "_law_led" ["_law_pieces_here", "_law_row", "_law_smooth", "_law_by", "_law_how"] (spV K 4 FL_led)) (C_plainest : Cal P w K mg base (CXR P w) 1 "plainest" ["row"] (spD K 1 F_plainest)) (C_row_worth : Cal P w K mg base (CXR P w) 5 "row_worth" ["row", "x"] (spD K 2 F_row_worth)) (CL_cell_at : Cal P w K mg base (CXR P w) 1 "_law_cell_at" ["_law_script", "_law_k"] (spD K 2 FL_cell_at)) (CL_times : Cal P w K mg base (CXR P w) 2 "_law_times" ["_law_one", "_law_other"] (spD K 2 FL_times)) (F : Fun K "law" "law" s_law f fd) : FnOk P w K mg base (CXR P w) 8 f fd ["_law_script"] (spD K 1 F_law) :=
  fn_ok 1 9 B_law F sc_law rfl rfl fun cdv AA outer s H E Z =>
   (dss_cons (ds_set 1 sc_law.nd (de_ix (de_lst (dcz diz (dcz diz dnz))) (de_callTy call_int1 cd_int A.m_int boot_int (dcz (de_cmp (op_eqD Z.rm.units) od_eq (de_bin op_modN od_mod (de_cal Z CL_cell_at (dcz (dvz 0) (dcz diz dnz))) diz) diz) dnz))))
    (dss_cons (ds_asg (de_cal Z CL_pieces (dcz (dvz 0) (dcz diz (dcz (dvz 1) (dcz (de_lst (dcz (de_tup (dcz diz (dcz diz dnz))) (dcz (de_tup (dcz (de_neg diz) (dcz diz dnz))) (dcz (de_tup (dcz diz (dcz diz dnz))) (dcz (de_tup (dcz (de_neg diz) (dcz diz dnz))) dnz))))) dnz))))) (dg_tup Z (dgs_cons (dg_name 8 sc_law.nd) (dgs_cons (dg_name 9 sc_law.nd) dgs_nil))))
    (dss_cons (ds_set 2 sc_law.nd (de_cal Z C_row_of (dcz (dvz 8) dnz)))
    (dss_cons (ds_set 3 sc_law.nd (de_cal Z CL_num (dcz (de_bin op_sub od_sub (de_bin op_modN od_mod (de_cal Z CL_cell_at (dcz (dvz 0) (dcz diz dnz))) diz) diz) (dcz (de_bin op_add od_add diz (de_bin op_modN od_mod (de_cal Z CL_cell_at (dcz (dvz 0) (dcz diz dnz))) diz)) dnz))))
    (dss_cons (ds_set 4 sc_law.nd (de_cal Z CL_num (dcz (de_bin op_add od_add diz (de_bin op_modN od_mod (de_cal Z CL_cell_at (dcz (dvz 0) (dcz diz dnz))) diz)) (dcz (de_bin op_add od_add diz (de_bin op_modN od_mod (de_cal Z CL_cell_at (dcz (dvz 0) (dcz diz dnz))) diz)) dnz))))
    (dss_cons (ds_set 5 sc_law.nd (de_cal Z C_row_moved (dcz (dvz 2) (dcz (dvz 3) dnz))))
    (dss_cons (ds_set 6 sc_law.nd (de_cal Z C_row_stretched (dcz (dvz 2) (dcz (dvz 4) dnz))))
    (dss_cons (ds_if (DW.pt (dw_or (dt_not (dt_val (de_calV Z CL_led (dcz (dvz 8) (dcz (dvz 5) (dcz (dvz 9) (dcz (dvz 3) (dcz (de_fn .fnA A.m__law_plus) dnz)))))))) (dw_or1 (dt_not (dt_val (de_calV Z CL_led (dcz (dvz 8) (dcz (dvz 6) (dcz (dvz 9) (dcz (dvz 4) (dcz (de_fn .fnB A.m__law_times) dnz))))))))))) (dss_one (ds_ret de_bl)) dss_nil)
    (dss_cons (ds_if (DW.pt (dw_or (dt_cmp (op_neD Z.rm.units) od_ne (de_cal Z C_row_moved (dcz (dvz 5) (dcz (de_cal Z CL_times (dcz (de_tup (dcz (de_neg diz) (dcz diz dnz))) (dcz (dvz 3) dnz))) dnz))) (dvz 2)) (dw_or1 (dt_cmp (op_neD Z.rm.units) od_ne (de_cal Z C_row_stretched (dcz (dvz 6) (dcz (de_cal Z CL_num (dcz (de_ix (dvz 4) diz) (dcz (de_ix (dvz 4) diz) dnz))) dnz))) (dvz 2))))) (dss_one (ds_ret de_bl)) dss_nil)
    (dss_cons (ds_if (dt_not (dt_val (de_cal Z CL_refused (dcz (dvz 2) (dcz (de_ix (de_lst (dcz (de_tup (dcz diz (dcz diz dnz))) (dcz (de_cal Z CL_times (dcz (de_tup (dcz (de_neg diz) (dcz diz dnz))) (dcz (dvz 4) dnz))) dnz))) (de_bin op_modN od_mod (de_cal Z CL_cell_at (dcz (dvz 0) (dcz diz dnz))) diz)) dnz))))) (dss_one (ds_ret de_bl)) dss_nil)
    (dss_cons (ds_set 7 sc_law.nd (de_cal Z CL_plain (dcz (dvz 8) dnz)))
    (dss_cons (ds_if (DW.pt (dw_or (dt_cmp (op_neD Z.rm.units) od_ne (de_cal Z C_plainest (dcz (dvz 2) dnz)) (dvz 7)) (dw_or1 (dt_cmp (op_neD Z.rm.units) od_ne (de_cal Z C_plainest (dcz (dvz 7) dnz)) (dvz 7))))) (dss_one (ds_ret de_bl)) dss_nil)
    (dss_one (ds_ret (de_cmp (op_eqD Z.rm.units) od_eq (de_lc3 Z (fun _ h => cell_has h) (by show compChk3 ["_law_script", "_law_most", "_law_row", "_law_c", "_law_k", "_law_one", "_law_other", "_law_due", "_law_pieces_here", "_law_smooth"] _ _ _ _ (defScope s_law) = true; decide +kernel) (DI.c (di_list (dvz 8))) (fun _ _ _ _ _ Z => (de_cal Z C_row_worth (dcz (dvz 10) (dcz (dvz 0) dnz))))) (de_lc3 Z (fun _ h => cell_has h) (by show compChk3 ["_law_script", "_law_most", "_law_row", "_law_c", "_law_k", "_law_one", "_law_other", "_law_due", "_law_pieces_here", "_law_smooth"] _ _ _ _ (defScope s_law) = true; decide +kernel) (DI.c (di_list (dvz 8))) (fun _ _ _ _ _ Z => (de_cal Z C_row_worth (dcz (dvz 5) (dcz (dvz 0) dnz))))))))))))))))))))
end
end Law
set_option maxHeartbeats 1000000
set_option exponentiation.threshold 20000
namespace Law
open PySem L2 L3 D3
noncomputable abbrev ZZ1 := (fSet 4 (fCall (gF 2 FL_product) (fCons (fVar 4) (fCons (fCall D3.gTup (fCons (fCall (gF 2 FL_times) (fCons (fCall D3.gTup (fCons (fU negOf (fC (.int 1))) (fCons (fC (.int 1)) fNil))) (fCons (fVar 1) fNil))) (fCons (fCall D3.gTup (fCons (fC (.int 1)) (fCons (fC (.int 1)) fNil))) fNil))) fNil))))
noncomputable abbrev ZZ2 := (fSeq (fSet 10 (fCall (gF 2 FL_cell_at) (fCons (fVar 0) (fCons (f2 (gI gAdd) (f2 (gI gAdd) (fVar 1) (fC (.int 4))) (fVar 9)) fNil))))
    (fSeq (fSet 11 (fCall (gF 2 FL_plus) (fCons (fVar 5) (fCons (fCall (gF 2 FL_num) (fCons (f2 (gI gAdd) (fC (.int 1)) (f2 (gI gMod) (fVar 10) (fC (.int 4)))) (fCons (f2 (gI gAdd) (fC (.int 1)) (f2 (gI gMod) (f2 (gI gFdiv) (fVar 10) (fC (.int 4))) (fC (.int 3)))) fNil))) fNil))))
    (fSeq (fApp 7 (fCall D3.gTup (fCons (fVar 5) (fCons (fVar 11) (fCons (fVar 6) fNil)))))
    (fSeq (fAsg (tTupT (tsCons (tName 6) (tsCons (tName 12) tsNil)) 2) (fCall (gF 3 FL_next) (fCons (fVar 6) (fCons (fVar 11) (fCons (f2 (gI gFdiv) (fVar 10) (fC (.int 12))) fNil)))))
    (fSeq (fApp 8 (fVar 12))
    (fSet 5 (fVar 11)))))))
noncomputable abbrev ZZ3 := (fPut 2 (fCall (gF 2 FL_plus) (fCons (f2 gIx (fVar 2) (f2 (gI gAdd) (fVar 3) (fVar 4))) (fCons (fCall (gF 2 FL_times) (fCons (f2 gIx (fVar 0) (fVar 3)) (fCons (f2 gIx (fVar 1) (fVar 4)) fNil))) fNil))) (f2 (gI gAdd) (fVar 3) (fVar 4)))
noncomputable abbrev ZZ6 := (fIfS (fB (f2 (gEq true) (fCall (gF 2 FL_worth_of) (fCons (f2 gIx (f2 gIx (fVar 1) (fVar 5)) (fC (.int 2))) (fCons (fCalL 4 2 FL_plus FL_times (fCons (fVar 6) (fCons (fVar 3) fNil))) fNil))) (fCall (gF 2 FL_worth_of) (fCons (fVar 9) (fCons (fVar 6) fNil))))) (fRet (fC (.bool false))) fNext)
noncomputable abbrev ZZ4 := (fFor (fI itemsL (fCall D3.gLst (fCons (fVar 7) (fCons (fCall (gF 2 FL_times) (fCons (fCall (gF 2 FL_plus) (fCons (fVar 7) (fCons (fVar 8) fNil))) (fCons (fCall D3.gTup (fCons (fC (.int 1)) (fCons (fC (.int 2)) fNil))) fNil))) (fCons (fCall (gF 2 FL_plus) (fCons (fVar 7) (fCons (fCall D3.gTup (fCons (fC (.int 1)) (fCons (fC (.int 1)) fNil))) fNil))) fNil))))) (tName 6) ZZ6)
noncomputable abbrev ZZ7 := (fPut 2 (fCall (gF 2 F_minus) (fCons (f2 gIx (fVar 2) (fVar 4)) (fCons (fCall (gF 2 F_times) (fCons (fVar 1) (fCons (f2 gIx (fVar 2) (f2 (gI gAdd) (fVar 4) (fC (.int 1)))) fNil))) fNil))) (fVar 4))
noncomputable abbrev ZZ5 := (fFor (fR rng3 (fCons (f2 (gI D3.gSub) (fCall (g1 lenOf) (fCons (fVar 0) fNil)) (fC (.int 2))) (fCons (f2 (gI D3.gSub) (fVar 3) (fC (.int 1))) (fCons (fU negOf (fC (.int 1))) fNil)))) (tName 4) ZZ7)
noncomputable abbrev ZZ8 := (fSeq (fSet 4 (f2 (gI gAdd) (fVar 4) (fC (.int 1))))
    (fSet 3 (fCall (gF 1 F_slope) (fCons (fVar 3) fNil))))
noncomputable abbrev ZZ9 := (fSeq (fSet 2 (f2 (gI gMod) (fVar 0) (fVar 1)))
    (fSeq (fSet 0 (fVar 1))
    (fSet 1 (fVar 2))))
local macro_rules | `(tactic| walk_at "ev") => `(tactic| first
  | assumption
  | with_reducible refine ev_f2 ?_ ?_ ?_ <;> walk_at "ev"
  | with_reducible refine ev_fB ?_ ?_ <;> walk_at "ev"
  | with_reducible refine ev_fV ?_ <;> walk_at "ev"
  | with_reducible refine ev_not ?_ <;> walk_at "ev"
  | with_reducible refine ev_fU ?_ ?_ <;> walk_at "ev"
  | with_reducible refine ecz ?_ ?_ <;> walk_at "ev"
  | with_reducible refine ev_call ?_ ?_ <;> walk_at "ev"
  | with_reducible exact gEq_int _ _
  | with_reducible exact gNe_int _ _
  | with_reducible exact ix_t0
  | with_reducible exact ix_t1
  | with_reducible refine gMulI ?_ <;> walk_at "sd"
  | with_reducible refine gModP ?_ <;> walk_at "sd"
  | with_reducible refine gFdivP ?_ ?_ <;> walk_at "sd"
  | with_reducible refine gPowI ?_ <;> exact ⟨by decide, by decide, by decide⟩
  | with_reducible refine ev_gF rfl rfl ?_ rfl <;> walk_at "fn"
  | with_reducible rfl
  | rfl)
local macro_rules | `(tactic| walk_at "sd") => `(tactic| first | assumption | omega | decide)
local macro_rules | `(tactic| walk_at "fn") => `(tactic| assumption)
local macro_rules | `(tactic| walk_at "ss") => `(tactic| (simp only [List.set_cons_succ, List.set_cons_zero] <;> rfl))
local macro_rules | `(tactic| walk_at "st") => `(tactic| first
  | with_reducible refine ev_sset ?_ rfl ?_ ?_; rotate_left 1; (walk_at "ss"); rotate_left 1)
theorem gd_turn (a b : Int) (r : Sl) (hb : b ≠ 0) : ZZ9 [.dat (.int a), .dat (.int b), r] = some (.next [.dat (.int b), .dat (.int (a.fmod b)), .dat (.int (a.fmod b))]) := by
  refine ev_sset (ev_f2 rfl rfl (gModI hb)) rfl (by walk_at "ss") ?_
  refine ev_sset rfl rfl (by walk_at "ss") ?_
  exact ev_set rfl rfl rfl
theorem F_gd (a b : Int) : F_greatest_divisor [.int a, .int b] = okM (.val (.int (Int.gcd a b : Int))) := by
  refine ev_fn rfl ?_
  show B_greatest_divisor [.dat (.int a), .dat (.int b), .no] = _
  unfold B_greatest_divisor
  obtain ⟨δ', e, x, r, rfl, hx⟩ := whN_inv (c := (fB (f2 (gEq true) (fVar 1) (fC (.int 0))))) (b := ZZ9) (δ := [.dat (.int a), .dat (.int b), .no])
    (fun δ => ∃ (x y : Int) (r : Sl), δ = [.dat (.int x), .dat (.int y), r] ∧ Int.gcd x y = Int.gcd a b)
    (fun δ => ∃ (x : Int) (r : Sl), δ = [.dat (.int x), .dat (.int 0), r] ∧ Int.gcd x 0 = Int.gcd a b)
    (fun δ => match δ with | [_, .dat (.int y), _] => y.natAbs | _ => 0)
    (by
      rintro δ ⟨x, y, r, rfl, hg⟩
      by_cases hy : y = 0
      · subst hy
        exact .inl ⟨ev_fB (ev_f2 rfl rfl (gNe_int _ _)) rfl, x, r, rfl, hg⟩
      · refine .inr ⟨?_, _, gd_turn x y r hy, ⟨y, x.fmod y, _, rfl, ?_⟩, NB.fmod_lt x y hy⟩
        · have := ev_fB (δ := [.dat (.int x), .dat (.int y), r]) (f := f2 (gEq true) (fVar 1) (fC (.int 0))) (ev_f2 rfl rfl (gNe_int y 0)) rfl
          rw [this, decide_eq_false hy]; rfl
        · rw [NB.gcd_fmod]; exact hg) ⟨a, b, .no, rfl, rfl⟩
  refine ev_seq e ?_
  refine ev_ret (ev_call rfl rfl) ?_
  have e2 : (if x < 0 then -x else x) = (Int.gcd a b : Int) := by
    rw [← hx, Int.gcd_zero_right]
    split <;> omega
  rw [e2]; rfl
theorem gcd_small {t b : Int} (hb : b ≠ 0) (hz : b.natAbs < 2 ^ 9000) : (Int.gcd t b) < 2 ^ 9000 := by
  refine Nat.lt_of_le_of_lt ?_ hz
  have h := Int.natAbs_dvd_natAbs.mpr (Int.gcd_dvd_right t b)
  rw [Int.natAbs_natCast] at h
  exact Nat.le_of_dvd (by omega) h
theorem F_num (t b : Int) (hb : b ≠ 0) (hz : b.natAbs < 2 ^ 9000) : F_number [.int t, .int b] = okM (.val (nD (Rat.divInt t b))) := by
  refine ev_fn rfl ?_
  show B_number [.dat (.int t), .dat (.int b), .no] = _
  unfold B_number
  refine ev_sifF (by rw [ev_fB (ev_f2 rfl rfl (gEq_int b 0)) rfl, decide_eq_false hb]) ?_
  refine ev_snext ?_
  refine ev_sset (ev_call rfl (ev_gF rfl rfl (F_gd t b) rfl)) rfl (by walk_at "ss") ?_
  have gs := gcd_small (t := t) hb hz
  have fin : ∀ d : Int, d = (if b < 0 then -(Int.gcd t b : Int) else (Int.gcd t b : Int)) → (fRet (fCall D3.gTup (fCons (f2 (gI gFdiv) (fVar 0) (fVar 2)) (fCons (f2 (gI gFdiv) (fVar 1) (fVar 2)) fNil)))) [.dat (.int t), .dat (.int b), .dat (.int d)] = some (.ret (.val (nD (Rat.divInt t b)))) := fun d hd => by
    obtain ⟨h0, e1, e2⟩ := NB.num_low t b hb d hd
    have hs : d.natAbs < 2 ^ 9000 := by rw [hd]; split <;> omega
    refine ev_ret (ev_call (ecz (ev_f2 rfl rfl (gFdivI h0 hs)) (ecz (ev_f2 rfl rfl (gFdivI h0 hs)) rfl)) rfl) ?_
    rw [e1, e2]; rfl
  refine ev_sif (ev_fB (ev_f2 rfl rfl rfl) rfl) (fun c => ?_) (fun c => ?_)
  · have c' : b < 0 := of_decide_eq_true c
    refine ev_sset (ev_fU rfl rfl) rfl (by walk_at "ss") ?_
    exact fin _ (by rw [if_pos c'])
  · have c' : ¬ b < 0 := of_decide_eq_false c
    exact ev_snext (fin _ (by rw [if_neg c']))
def cD (l : List Rat) : PyData := .tuple (l.map nD)
def lD (l : List Rat) : PyData := .list (l.map nD)
theorem noLs_nD : ∀ l : List Rat, noLs (l.map nD) = true
  | [] => by simp [noLs]
  | q :: l => by simp only [List.map_cons, noLs, noL_num, noLs_nD l, Bool.and_self]
theorem noL_cD (l : List Rat) : noL (cD l) = true := by unfold cD noL; exact noLs_nD l
theorem lay_num (q : Rat) : PyData.canLay0 (nD q) = true := by simp [nD, PyData.canLay0, PyData.canLayAll0]
theorem dep_num (q : Rat) : PyData.depth (nD q) ≤ 2 := by simp [nD, PyData.depth, PyData.depthAll]
theorem lay_nums : ∀ l : List Rat, PyData.canLayAll0 (l.map nD) = true
  | [] => by simp [PyData.canLayAll0]
  | q :: l => by simp only [List.map_cons, PyData.canLayAll0, lay_num, lay_nums l, Bool.and_self]
theorem dep_nums : ∀ l : List Rat, PyData.depthAll (l.map nD) ≤ 2
  | [] => by simp [PyData.depthAll]
  | q :: l => by
    have h1 := dep_num q
    have h2 := dep_nums l
    simp only [List.map_cons, PyData.depthAll]
    omega
theorem okD_cD (l : List Rat) : okD (cD l) = true := by
  have h := dep_nums l
  unfold okD SeqAt.shaped cD
  have e : ∀ n : Nat, n ≤ 64 → decide (n ≤ 64) = true := fun n h => decide_eq_true h
  simp only [PyData.canLay0, lay_nums, PyData.depth, Bool.true_and]
  exact e _ (by omega)
theorem okD_lD (l : List Rat) : okD (lD l) = true := by
  have h := dep_nums l
  unfold okD SeqAt.shaped lD
  have e : ∀ n : Nat, n ≤ 64 → decide (n ≤ 64) = true := fun n h => decide_eq_true h
  simp only [PyData.canLay0, lay_nums, PyData.depth, Bool.true_and]
  exact e _ (by omega)
theorem eqv_nums : ∀ l m : List Rat, PyData.eqvAll (l.map nD) (m.map nD) = decide (l = m)
  | [], [] => by simp [PyData.eqvAll]
  | [], q :: m => by simp [PyData.eqvAll]
  | q :: l, [] => by simp [PyData.eqvAll]
  | q :: l, p :: m => by
    simp only [List.map_cons, PyData.eqvAll, eqv_num, eqv_nums l m]
    by_cases h1 : q = p <;> by_cases h2 : l = m <;> simp [h1, h2]
theorem eqv_cD (l m : List Rat) : PyData.eqv (cD l) (cD m) = decide (l = m) := by unfold cD; simp only [PyData.eqv]; exact eqv_nums l m
theorem eqv_lD (l m : List Rat) : PyData.eqv (lD l) (lD m) = decide (l = m) := by unfold lD; simp only [PyData.eqv]; exact eqv_nums l m
theorem gEqD {x y : Rz} {d e : PyData} {b : Bool} (hx : x.d? = some d) (hy : y.d? = some e) (od : okD d = true) (oe : okD e = true) (h : PyData.eqv d e = b) : gEq false x y = okM (.dat (.bool b)) := by
  unfold gEq; rw [hx, hy]; dsimp only; rw [if_pos ⟨od, oe⟩, h]; rfl
theorem gNeD {x y : Rz} {d e : PyData} {b : Bool} (hx : x.d? = some d) (hy : y.d? = some e) (od : okD d = true) (oe : okD e = true) (h : PyData.eqv d e = !b) : gEq true x y = okM (.dat (.bool b)) := by
  unfold gEq; rw [hx, hy]; dsimp only; rw [if_pos ⟨od, oe⟩, h]; simp
theorem outZ_num (q : Rat) : outZ (.val (nD q)) = .dat (nD q) := by unfold outZ; dsimp only; rw [if_pos (noL_num q)]
theorem outZ_cur (l : List Rat) : outZ (.val (cD l)) = .dat (cD l) := by unfold outZ; dsimp only; rw [if_pos (noL_cD l)]
theorem get_nD {l : List Rat} {i : Nat} {q : Rat} (h : l[i]? = some q) : (l.map nD)[i]? = some (nD q) := by rw [List.getElem?_map, h]; rfl
def ev : List Rat → Rat → Rat
  | [], _ => 0
  | a :: l, x => a + x * ev l x
theorem ev_append (l m : List Rat) (x : Rat) : ev (l ++ m) x = ev l x + x ^ l.length * ev m x := by
  induction l with
  | nil => simp [ev]; grind
  | cons a l ih => simp only [List.cons_append, ev, ih, List.length_cons, Rat.pow_succ]; grind
theorem ev_zeros (n : Nat) (x : Rat) : ev (List.replicate n 0) x = 0 := by
  induction n with
  | zero => rfl
  | succ n ih => simp only [List.replicate_succ, ev, ih]; grind
def trim (l : List Rat) : List Rat := (l.reverse.dropWhile (· == 0)).reverse
theorem trim_snoc0 (l : List Rat) : trim (l ++ [0]) = trim l := by unfold trim; simp
theorem trim_snoc {l : List Rat} {a : Rat} (h : a ≠ 0) : trim (l ++ [a]) = l ++ [a] := by
  unfold trim
  simp [h]
theorem trim_zeros (l : List Rat) (n : Nat) : trim (l ++ List.replicate n 0) = trim l := by
  induction n with
  | zero => simp
  | succ n ih => rw [List.replicate_succ', ← List.append_assoc, trim_snoc0, ih]
theorem rev_ind {P : List Rat → Prop} (h0 : P []) (h1 : ∀ l a, P l → P (l ++ [a])) (l : List Rat) : P l := by
  have : ∀ r : List Rat, P r.reverse := fun r => by
    induction r with
    | nil => exact h0
    | cons a r ih => rw [List.reverse_cons]; exact h1 _ a ih
  have := this l.reverse
  rwa [List.reverse_reverse] at this
theorem trim_ex (l : List Rat) : ∃ n, l = trim l ++ List.replicate n 0 := by
  refine rev_ind (P := fun l => ∃ n, l = trim l ++ List.replicate n 0) ⟨0, rfl⟩ (fun l a ih => ?_) l
  · by_cases h : a = 0
    · subst h
      obtain ⟨n, e⟩ := ih
      refine ⟨n + 1, ?_⟩
      rw [trim_snoc0, List.replicate_succ', ← List.append_assoc, ← e]
    · exact ⟨0, by rw [trim_snoc h]; simp⟩
theorem ev_trim (l : List Rat) (x : Rat) : ev (trim l) x = ev l x := by
  obtain ⟨n, e⟩ := trim_ex l
  conv => rhs; rw [e]
  rw [ev_append, ev_zeros]; grind
theorem trim_last (l : List Rat) : trim l = [] ∨ ∃ m a, trim l = m ++ [a] ∧ a ≠ 0 := by
  refine rev_ind (P := fun l => trim l = [] ∨ ∃ m a, trim l = m ++ [a] ∧ a ≠ 0) (.inl rfl) (fun l a ih => ?_) l
  · by_cases h : a = 0
    · subst h; rw [trim_snoc0]; exact ih
    · exact .inr ⟨l, a, trim_snoc h, h⟩
theorem trim_len (l : List Rat) : (trim l).length ≤ l.length := by
  obtain ⟨n, e⟩ := trim_ex l
  have := congrArg List.length e
  rw [List.length_append] at this
  omega
theorem trim_take (l : List Rat) : trim l = l.take (trim l).length := by
  obtain ⟨n, e⟩ := trim_ex l
  have h : l.take (trim l).length = (trim l ++ List.replicate n 0).take (trim l).length := by rw [← e]
  rw [h, List.take_left]
theorem P_plus (p q : Rat) (zp : NB.Sz 4000 p) (zq : NB.Sz 4000 q) : F_plus [nD p, nD q] = okM (.val (nD (p + q))) := by
  refine ev_fn rfl ?_
  show B_plus [.dat (nD p), .dat (nD q)] = _
  unfold B_plus
  have m1 : ∀ {u v : Int}, u.natAbs < 2 ^ 4000 → v.natAbs < 2 ^ 4000 → IntMulOk u v := fun hu hv => mulOk hu hv (by decide)
  have dp : ((p.den : Nat) : Int).natAbs < 2 ^ 4000 := by rw [Int.natAbs_natCast]; exact zp.2
  have dq : ((q.den : Nat) : Int).natAbs < 2 ^ 4000 := by rw [Int.natAbs_natCast]; exact zq.2
  have nz : (p.den : Int) * (q.den : Int) ≠ 0 := by
    have h := Nat.mul_ne_zero p.den_nz q.den_nz
    intro z
    exact h (by exact_mod_cast z)
  have bz : ((p.den : Int) * (q.den : Int)).natAbs < 2 ^ 9000 := by
    rw [Int.natAbs_mul]
    exact Nat.lt_of_lt_of_le (NB.mul_lt (m := 4000) (n := 4000) dp dq) (Nat.pow_le_pow_right (by decide) (by decide))
  refine ev_ret (ev_call (ecz (ev_f2 (ev_f2 (ev_f2 rfl rfl ix_t0) (ev_f2 rfl rfl ix_t1) (gMulI (m1 zp.1 dq))) (ev_f2 (ev_f2 rfl rfl ix_t0) (ev_f2 rfl rfl ix_t1) (gMulI (m1 zq.1 dp))) rfl) (ecz (ev_f2 (ev_f2 rfl rfl ix_t1) (ev_f2 rfl rfl ix_t1) (gMulI (m1 dp dq))) rfl)) (ev_gF rfl rfl (F_num _ _ nz bz) rfl)) ?_
  rw [NB.plus_eq, outZ_num]; rfl
theorem P_minus (p q : Rat) (zp : NB.Sz 4000 p) (zq : NB.Sz 4000 q) : F_minus [nD p, nD q] = okM (.val (nD (p - q))) := by
  refine ev_fn rfl ?_
  show B_minus [.dat (nD p), .dat (nD q)] = _
  unfold B_minus
  have m1 : ∀ {u v : Int}, u.natAbs < 2 ^ 4000 → v.natAbs < 2 ^ 4000 → IntMulOk u v := fun hu hv => mulOk hu hv (by decide)
  have dp : ((p.den : Nat) : Int).natAbs < 2 ^ 4000 := by rw [Int.natAbs_natCast]; exact zp.2
  have dq : ((q.den : Nat) : Int).natAbs < 2 ^ 4000 := by rw [Int.natAbs_natCast]; exact zq.2
  have nz : (p.den : Int) * (q.den : Int) ≠ 0 := by
    have h := Nat.mul_ne_zero p.den_nz q.den_nz
    intro z
    exact h (by exact_mod_cast z)
  have bz : ((p.den : Int) * (q.den : Int)).natAbs < 2 ^ 9000 := by
    rw [Int.natAbs_mul]
    exact Nat.lt_of_lt_of_le (NB.mul_lt (m := 4000) (n := 4000) dp dq) (Nat.pow_le_pow_right (by decide) (by decide))
  refine ev_ret (ev_call (ecz (ev_f2 (ev_f2 (ev_f2 rfl rfl ix_t0) (ev_f2 rfl rfl ix_t1) (gMulI (m1 zp.1 dq))) (ev_f2 (ev_f2 rfl rfl ix_t0) (ev_f2 rfl rfl ix_t1) (gMulI (m1 zq.1 dp))) rfl) (ecz (ev_f2 (ev_f2 rfl rfl ix_t1) (ev_f2 rfl rfl ix_t1) (gMulI (m1 dp dq))) rfl)) (ev_gF rfl rfl (F_num _ _ nz bz) rfl)) ?_
  rw [NB.minus_eq, outZ_num]; rfl
theorem P_times (p q : Rat) (zp : NB.Sz 4000 p) (zq : NB.Sz 4000 q) : F_times [nD p, nD q] = okM (.val (nD (p * q))) := by
  refine ev_fn rfl ?_
  show B_times [.dat (nD p), .dat (nD q)] = _
  unfold B_times
  have m1 : ∀ {u v : Int}, u.natAbs < 2 ^ 4000 → v.natAbs < 2 ^ 4000 → IntMulOk u v := fun hu hv => mulOk hu hv (by decide)
  have dp : ((p.den : Nat) : Int).natAbs < 2 ^ 4000 := by rw [Int.natAbs_natCast]; exact zp.2
  have dq : ((q.den : Nat) : Int).natAbs < 2 ^ 4000 := by rw [Int.natAbs_natCast]; exact zq.2
  have nz : (p.den : Int) * (q.den : Int) ≠ 0 := by
    have h := Nat.mul_ne_zero p.den_nz q.den_nz
    intro z
    exact h (by exact_mod_cast z)
  have bz : ((p.den : Int) * (q.den : Int)).natAbs < 2 ^ 9000 := by
    rw [Int.natAbs_mul]
    exact Nat.lt_of_lt_of_le (NB.mul_lt (m := 4000) (n := 4000) dp dq) (Nat.pow_le_pow_right (by decide) (by decide))
  refine ev_ret (ev_call (ecz (ev_f2 (ev_f2 rfl rfl ix_t0) (ev_f2 rfl rfl ix_t0) (gMulI (m1 zp.1 zq.1))) (ecz (ev_f2 (ev_f2 rfl rfl ix_t1) (ev_f2 rfl rfl ix_t1) (gMulI (m1 dp dq))) rfl)) (ev_gF rfl rfl (F_num _ _ nz bz) rfl)) ?_
  rw [NB.times_eq, outZ_num]; rfl
theorem P_over (p q : Rat) (zp : NB.Sz 4000 p) (zq : NB.Sz 4000 q) (q0 : q ≠ 0) : F_over [nD p, nD q] = okM (.val (nD (p / q))) := by
  refine ev_fn rfl ?_
  show B_over [.dat (nD p), .dat (nD q)] = _
  unfold B_over
  have m1 : ∀ {u v : Int}, u.natAbs < 2 ^ 4000 → v.natAbs < 2 ^ 4000 → IntMulOk u v := fun hu hv => mulOk hu hv (by decide)
  have dp : ((p.den : Nat) : Int).natAbs < 2 ^ 4000 := by rw [Int.natAbs_natCast]; exact zp.2
  have dq : ((q.den : Nat) : Int).natAbs < 2 ^ 4000 := by rw [Int.natAbs_natCast]; exact zq.2
  have nz : (p.den : Int) * q.num ≠ 0 := by
    intro z
    rcases Int.mul_eq_zero.mp z with z | z
    · exact p.den_nz (by omega)
    · exact q0 (Rat.num_eq_zero.mp z)
  have bz : ((p.den : Int) * q.num).natAbs < 2 ^ 9000 := by
    rw [Int.natAbs_mul]
    exact Nat.lt_of_lt_of_le (NB.mul_lt (m := 4000) (n := 4000) dp zq.1) (Nat.pow_le_pow_right (by decide) (by decide))
  refine ev_ret (ev_call (ecz (ev_f2 (ev_f2 rfl rfl ix_t0) (ev_f2 rfl rfl ix_t1) (gMulI (m1 zp.1 dq))) (ecz (ev_f2 (ev_f2 rfl rfl ix_t1) (ev_f2 rfl rfl ix_t0) (gMulI (m1 dp zq.1))) rfl)) (ev_gF rfl rfl (F_num _ _ nz bz) rfl)) ?_
  rw [NB.over_eq, outZ_num]; rfl
theorem P_sign (q : Rat) : F_sign [nD q] = okM (.val (.int (if 0 < q.num then 1 else if q.num < 0 then -1 else 0))) := by
  refine ev_fn rfl ?_
  show B_sign [.dat (nD q)] = _
  unfold B_sign
  refine ev_sif (ev_fB (ev_f2 (ev_f2 rfl rfl ix_t0) rfl rfl) rfl) (fun c => ?_) (fun c => ?_)
  · have c' : 0 < q.num := of_decide_eq_true c
    rw [if_pos c']; exact ev_sret rfl rfl
  · have c' : ¬ 0 < q.num := of_decide_eq_false c
    rw [if_neg c']
    refine ev_snext (ev_sif (ev_fB (ev_f2 (ev_f2 rfl rfl ix_t0) rfl rfl) rfl) (fun c => ?_) (fun c => ?_))
    · have c' : q.num < 0 := of_decide_eq_true c
      rw [if_pos c']; exact ev_sret (ev_fU rfl rfl) rfl
    · have c' : ¬ q.num < 0 := of_decide_eq_false c
      rw [if_neg c']; exact ev_snext (ev_ret rfl rfl)
theorem sign_zero (q : Rat) : decide ((if 0 < q.num then (1 : Int) else if q.num < 0 then -1 else 0) = 0) = decide (q = 0) := by
  by_cases h : q = 0
  · subst h; rfl
  · have h' : q.num ≠ 0 := fun z => h (Rat.num_eq_zero.mp z)
    rw [decide_eq_false h]
    refine decide_eq_false fun z => h' ?_
    split at z
    · omega
    · split at z <;> omega
theorem cut_upto (ds : List PyData) (k : Nat) (h : k ≤ ds.length) : cutD ds none (some (k : Int)) = ds.take k := by
  unfold cutD
  rw [HT.sIx_none, HT.sIx_nat, Nat.min_eq_left h]; simp
theorem co_loop (l : List Rat) : fWh (fAnd (fB (f2 (gI gGt) (fVar 1) (fC (.int 0)))) (fB (f2 (gEq false) (fCall (gF 1 F_sign) (fCons (f2 gIx (fVar 0) (f2 (gI D3.gSub) (fVar 1) (fC (.int 1)))) fNil)) (fC (.int 0))))) (fSet 1 (f2 (gI D3.gSub) (fVar 1) (fC (.int 1)))) [.dat (lD l), .dat (.int (l.length : Int))]
    = some (.next [.dat (lD l), .dat (.int ((trim l).length : Int))]) := by
  obtain ⟨δ', e, k, rfl, hk⟩ := whN_inv (c := fAnd (fB (f2 (gI gGt) (fVar 1) (fC (.int 0)))) (fB (f2 (gEq false) (fCall (gF 1 F_sign) (fCons (f2 gIx (fVar 0) (f2 (gI D3.gSub) (fVar 1) (fC (.int 1)))) fNil)) (fC (.int 0))))) (b := fSet 1 (f2 (gI D3.gSub) (fVar 1) (fC (.int 1)))) (δ := [.dat (lD l), .dat (.int (l.length : Int))])
    (fun δ => ∃ k : Nat, δ = [.dat (lD l), .dat (.int (k : Int))] ∧ k ≤ l.length ∧ trim (l.take k) = trim l)
    (fun δ => ∃ k : Nat, δ = [.dat (lD l), .dat (.int (k : Int))] ∧ k = (trim l).length)
    (fun δ => match δ with | [_, .dat (.int k)] => k.toNat | _ => 0)
    (by
      rintro δ ⟨k, rfl, hk, ht⟩
      have c1 : fB (f2 (gI gGt) (fVar 1) (fC (.int 0))) [.dat (lD l), .dat (.int (k : Int))] = okM (decide ((0 : Int) < (k : Int))) := ev_fB (ev_f2 rfl rfl rfl) rfl
      cases k with
      | zero =>
        refine .inl ⟨ev_andF c1, 0, rfl, ?_⟩
        rw [← ht]; rfl
      | succ k =>
        have hlt : k < l.length := by omega
        have c1' : fB (f2 (gI gGt) (fVar 1) (fC (.int 0))) [.dat (lD l), .dat (.int ((k + 1 : Nat) : Int))] = okM true := by rw [c1, decide_eq_true (by omega)]
        have c2 : fB (f2 (gEq false) (fCall (gF 1 F_sign) (fCons (f2 gIx (fVar 0) (f2 (gI D3.gSub) (fVar 1) (fC (.int 1)))) fNil)) (fC (.int 0))) [.dat (lD l), .dat (.int ((k + 1 : Nat) : Int))] = okM (decide (l[k] = 0)) := by
          rw [← sign_zero]
          exact ev_fB (ev_f2 (ev_call (ecz (ev_f2 rfl (ev_f2 rfl rfl rfl) (ix_lst (j := k) (d := nD l[k]) (by omega) (get_nD (List.getElem?_eq_getElem hlt)))) rfl) (ev_gF rfl rfl (P_sign _) rfl)) rfl (gEq_int _ _)) rfl
        have tk : l.take (k + 1) = l.take k ++ [l[k]] := by rw [List.take_succ, List.getElem?_eq_getElem hlt]; rfl
        by_cases h0 : l[k] = 0
        · refine .inr ⟨ev_andT c1' (by rw [c2, decide_eq_true h0]), [.dat (lD l), .dat (.int (k : Int))], ?_, ⟨k, rfl, by omega, ?_⟩, ?_⟩
          · refine ev_set (ev_f2 rfl rfl rfl) rfl ?_
            have e : ((k + 1 : Nat) : Int) - 1 = (k : Int) := by omega
            rw [e]; rfl
          · rw [← ht, tk, h0, trim_snoc0]
          · show ((k : Int)).toNat < (((k + 1 : Nat) : Int)).toNat
            omega
        · refine .inl ⟨ev_andT c1' (by rw [c2, decide_eq_false h0]), k + 1, rfl, ?_⟩
          rw [← ht, tk, trim_snoc h0, List.length_append, List.length_take, List.length_singleton]
          omega) ⟨l.length, rfl, Nat.le_refl _, by rw [List.take_length]⟩
  rw [e, hk]
theorem P_curve_of (l : List Rat) (h : (trim l).length ≤ 13) : F_curve_of [lD l] = okM (.val (cD (trim l))) := by
  refine ev_fn rfl ?_
  show B_curve_of [.dat (lD l), .no] = _
  unfold B_curve_of
  have hlen : lenOf (.dat (lD l)) = okM (.dat (.int (l.length : Int))) := by
    show okM (Rz.dat (PyData.int ((l.map nD).length : Int))) = _
    rw [List.length_map]
  refine ev_sset (ev_call rfl (show g1 lenOf [Rz.dat (lD l)] = _ from hlen)) rfl (by walk_at "ss") ?_
  refine ev_seq (co_loop l) ?_
  refine ev_sifF (by rw [ev_fB (ev_f2 rfl rfl rfl) rfl, decide_eq_false (by omega)]) (ev_snext ?_)
  have hs : fSl gSlL (fVar 0) fNoP (fPart (fVar 1)) [.dat (lD l), .dat (.int ((trim l).length : Int))] = okM (.new ((trim l).map nD)) := by
    show okM (Rz.new (cutD (l.map nD) none (some ((trim l).length : Int)))) = _
    rw [cut_upto _ _ (by rw [List.length_map]; exact trim_len l), ← List.map_take, ← trim_take]
  exact ev_ret (ev_call (ecz hs rfl) rfl) rfl
theorem sz_horner {a b m : Nat} {f x q : Rat} (hf : NB.Sz m f) (hx : NB.Sz b x) (hq : NB.Sz a q) : NB.Sz (m + (a + b + 1)) (f * x + q) := ((hf.mul hx).add hq).mono (by omega)
theorem sz_ev (a b : Nat) (l : List Rat) (x : Rat) (hx : NB.Sz b x) (hl : ∀ q ∈ l, NB.Sz a q) : NB.Sz (l.length * (a + b + 1) + 1) (ev l x) := by
  induction l with
  | nil => exact NB.Sz.zero (by omega)
  | cons q l ih =>
    have h := sz_horner (ih fun p hp => hl p (.tail _ hp)) hx (hl q (.head _))
    have e : ev (q :: l) x = ev l x * x + q := by simp only [ev]; grind
    rw [e]
    refine h.mono ?_
    rw [List.length_cons, Nat.add_mul]; omega
theorem P_worth (a b : Nat) (l : List Rat) (x : Rat) (hx : NB.Sz b x) (hl : ∀ q ∈ l, NB.Sz a q) (hb : l.length * (a + b + 1) + 1 + b ≤ 4000) (ha : a ≤ 4000) : F_worth [cD l, nD x] = okM (.val (nD (ev l x))) := by
  refine ev_fn rfl ?_
  show B_worth [.dat (cD l), .dat (nD x), .no, .no] = _
  unfold B_worth
  refine ev_sset rfl rfl (by walk_at "ss") ?_
  obtain ⟨δ', e, r, rfl⟩ := forN_inv (g := tName 3) (b := (fSet 2 (fCall (gF 2 F_plus) (fCons (fCall (gF 2 F_times) (fCons (fVar 2) (fCons (fVar 1) fNil))) (fCons (fVar 3) fNil))))) (δ := [.dat (cD l), .dat (nD x), .dat (nD 0), .no])
    (fun i δ => ∃ r, δ = [.dat (cD l), .dat (nD x), .dat (nD (ev (l.drop (l.length - i)) x)), r]) (l.map nD).reverse ⟨.no, by simp [ev]⟩
    (by
      rintro i d δ hd ⟨r, rfl⟩
      have hi : i < l.length := by
        by_cases c : i < l.length
        · exact c
        · rw [List.getElem?_eq_none (by simp; omega)] at hd; cases hd
      rw [List.getElem?_reverse (by simpa using hi), List.length_map] at hd
      have hlt : l.length - 1 - i < l.length := by omega
      rw [get_nD (List.getElem?_eq_getElem hlt)] at hd
      cases hd
      have hdr : l.drop (l.length - (i + 1)) = l[l.length - 1 - i] :: l.drop (l.length - i) := by
        have e1 : l.length - (i + 1) = l.length - 1 - i := by omega
        rw [e1, List.drop_eq_getElem_cons hlt]
        congr 2; omega
      have hsz : NB.Sz (l.length * (a + b + 1) + 1) (ev (l.drop (l.length - i)) x) := by
        refine (sz_ev a b _ x hx fun q hq => hl q (List.mem_of_mem_drop hq)).mono ?_
        have : (l.drop (l.length - i)).length ≤ l.length := by rw [List.length_drop]; omega
        exact Nat.add_le_add_right (Nat.mul_le_mul_right _ this) 1
      have hq := hl _ (List.getElem_mem hlt)
      refine ⟨_, _, rfl, .inl (ev_set (ev_call (ecz (ev_call (ecz rfl (ecz rfl rfl)) (ev_gF rfl rfl (P_times _ _ (hsz.mono (by omega)) (hx.mono (by omega))) (outZ_num _))) (ecz rfl rfl)) (ev_gF rfl rfl (P_plus _ _ ((hsz.mul hx).mono (by omega)) (hq.mono ha)) (outZ_num _))) rfl rfl), .dat (nD l[l.length - 1 - i]), ?_⟩
      have e2 : ev (l.drop (l.length - (i + 1))) x = ev (l.drop (l.length - i)) x * x + l[l.length - 1 - i] := by rw [hdr]; simp only [ev]; grind
      rw [e2]; rfl)
  refine ev_seq (ev_for (items := (l.map nD).reverse) rfl e) (ev_ret rfl ?_)
  simp
  rfl
def hs (c : Rat) : List Rat → List Rat
  | [] => []
  | a :: t => (a - c * (hs c t).headD 0) :: hs c t
theorem hs_len (c : Rat) (l : List Rat) : (hs c l).length = l.length := by
  induction l with
  | nil => rfl
  | cons a t ih => simp only [hs, List.length_cons, ih]
theorem ev_ht (l : List Rat) (x : Rat) : ev l x = l.headD 0 + x * ev l.tail x := by
  cases l with
  | nil => simp only [ev, List.headD_nil, List.tail_nil]; grind
  | cons a t => rfl
theorem hs_ev (c : Rat) (l : List Rat) (x : Rat) : ev l x = (hs c l).headD 0 + (x + c) * ev (hs c l).tail x := by
  induction l with
  | nil => simp only [hs, ev, List.headD_nil, List.tail_nil]; grind
  | cons a t ih =>
    have h := ev_ht (hs c t) x
    simp only [hs, ev, List.headD_cons, List.tail_cons]
    rw [ih, h]
    grind
theorem hs_inj (c : Rat) : ∀ l m : List Rat, hs c l = hs c m → l = m
  | [], [], _ => rfl
  | [], b :: s, h => by simp [hs] at h
  | a :: t, [], h => by simp [hs] at h
  | a :: t, b :: s, h => by
    simp only [hs, List.cons.injEq] at h
    have e := hs_inj c t s h.2
    rw [e] at h
    have : a = b := by grind
    rw [this, e]
theorem ev_inj : ∀ (n : Nat) (l m : List Rat) (N : Nat), l.length = n → m.length = n → (∀ x : Nat, N ≤ x → ev l (x : Rat) = ev m (x : Rat)) → l = m
  | 0, l, m, _, h1, h2, _ => by rw [List.length_eq_zero_iff.mp h1, List.length_eq_zero_iff.mp h2]
  | n + 1, l, m, N, h1, h2, h => by
    have hd : ∀ k : List Rat, ev k (N : Rat) = (hs (-(N : Rat)) k).headD 0 := fun k => by
      have := hs_ev (-(N : Rat)) k (N : Rat)
      rw [this]; grind
    have e0 : (hs (-(N : Rat)) l).headD 0 = (hs (-(N : Rat)) m).headD 0 := by rw [← hd, ← hd]; exact h N (Nat.le_refl _)
    have lt : ∀ k : List Rat, k.length = n + 1 → (hs (-(N : Rat)) k).tail.length = n := fun k hk => by rw [List.length_tail, hs_len, hk]; rfl
    have e1 : (hs (-(N : Rat)) l).tail = (hs (-(N : Rat)) m).tail := by
      refine ev_inj n _ _ (N + 1) (lt l h1) (lt m h2) fun x hx => ?_
      have a1 := hs_ev (-(N : Rat)) l (x : Rat)
      have a2 := hs_ev (-(N : Rat)) m (x : Rat)
      have a3 := h x (by omega)
      have a4 : (x : Rat) + -(N : Rat) ≠ 0 := by
        intro z
        have : (x : Rat) = (N : Rat) := by grind
        have : x = N := by exact_mod_cast this
        omega
      rw [a1, a2, e0] at a3
      have a5 : ((x : Rat) + -(N : Rat)) * (ev (hs (-(N : Rat)) l).tail (x : Rat) - ev (hs (-(N : Rat)) m).tail (x : Rat)) = 0 := by grind
      rcases Rat.mul_eq_zero.mp a5 with z | z
      · exact absurd z a4
      · grind
    refine hs_inj (-(N : Rat)) l m ?_
    have s : ∀ k : List Rat, k.length = n + 1 → hs (-(N : Rat)) k = (hs (-(N : Rat)) k).headD 0 :: (hs (-(N : Rat)) k).tail := fun k hk => by
      cases k with
      | nil => cases hk
      | cons a t => rfl
    rw [s l h1, s m h2, e0, e1]
def hsp (c : Rat) (k : Nat) (l : List Rat) : List Rat := l.take k ++ hs c (l.drop k)
theorem hsp_len (c : Rat) (k : Nat) (l : List Rat) : (hsp c k l).length = l.length := by
  unfold hsp; rw [List.length_append, hs_len, ← List.length_append, List.take_append_drop]
theorem hsp_last (c : Rat) (l : List Rat) : hsp c (l.length - 1) l = l := by
  unfold hsp
  cases h : l.drop (l.length - 1) with
  | nil =>
    have := List.take_append_drop (l.length - 1) l
    rw [h] at this
    simpa [hs] using this
  | cons a t =>
    have ht : t = [] := by
      have := congrArg List.length h
      rw [List.length_drop, List.length_cons] at this
      exact List.length_eq_zero_iff.mp (by omega)
    have e := List.take_append_drop (l.length - 1) l
    rw [h, ht] at e
    rw [ht]
    have : hs c [a] = [a] := by simp only [hs, List.headD_nil]; congr 1; grind
    rw [this]; exact e
theorem hsp_step (c : Rat) (k : Nat) (l : List Rat) (hk : k + 1 < l.length) : ∃ a b, (hsp c (k + 1) l)[k]? = some a ∧ (hsp c (k + 1) l)[k + 1]? = some b ∧ hsp c k l = (hsp c (k + 1) l).set k (a - c * b) := by
  have h1 : k < l.length := by omega
  have hd : l.drop k = l[k] :: l.drop (k + 1) := List.drop_eq_getElem_cons h1
  have tk : l.take (k + 1) = l.take k ++ [l[k]] := by rw [List.take_succ, List.getElem?_eq_getElem h1]; rfl
  have lt : (l.take k).length = k := by rw [List.length_take]; omega
  cases hh : hs c (l.drop (k + 1)) with
  | nil =>
    have := congrArg List.length hh
    rw [hs_len, List.length_drop, List.length_nil] at this
    omega
  | cons b r =>
    refine ⟨l[k], b, ?_, ?_, ?_⟩
    · unfold hsp
      rw [tk, hh, List.append_assoc, List.getElem?_append_right (by omega), lt]
      simp
    · unfold hsp
      rw [tk, hh, List.append_assoc, List.getElem?_append_right (by omega), lt]
      simp
    · unfold hsp
      rw [hd, tk, List.append_assoc, List.set_append_right _ _ (by omega), lt]
      simp only [hs, hh, List.headD_cons, Nat.sub_self, List.singleton_append, List.set_cons_zero]
def mvs (c : Rat) (l : List Rat) : Nat → List Rat
  | 0 => l
  | d + 1 => hsp c d (mvs c l d)
theorem mvs_len (c : Rat) (l : List Rat) (d : Nat) : (mvs c l d).length = l.length := by
  induction d with
  | zero => rfl
  | succ d ih => simp only [mvs, hsp_len, ih]
theorem td_at (b : Rat) (r : List Rat) : ∀ p : List Rat, (p ++ b :: r).take (p.length + 1) = p ++ [b] ∧ (p ++ b :: r).drop (p.length + 1) = r
  | [] => ⟨rfl, rfl⟩
  | a :: p => by
    have h := td_at b r p
    simp only [List.cons_append, List.length_cons, List.take_succ_cons, List.drop_succ_cons, h.1, h.2, and_self]
theorem mvs_ev (c : Rat) (l : List Rat) (x : Rat) (d : Nat) (h : d ≤ l.length) : ev l (x - c) = ev ((mvs c l d).take d) x + x ^ d * ev ((mvs c l d).drop d) (x - c) := by
  induction d with
  | zero => simp only [mvs, List.take_zero, List.drop_zero, ev]; grind
  | succ d ih =>
    have hl := mvs_len c l d
    rw [ih (by omega)]
    have lt : ((mvs c l d).take d).length = d := by rw [List.length_take]; omega
    have h1 := hs_ev c ((mvs c l d).drop d) (x - c)
    cases hh : hs c ((mvs c l d).drop d) with
    | nil =>
      have := congrArg List.length hh
      rw [hs_len, List.length_drop, List.length_nil] at this
      omega
    | cons b r =>
      rw [hh] at h1
      simp only [mvs, hsp]
      have td := td_at b r ((mvs c l d).take d)
      rw [lt] at td
      rw [hh, td.1, td.2]
      simp only [List.headD_cons, List.tail_cons] at h1
      rw [ev_append, lt, h1]
      simp only [ev, Rat.pow_succ]
      grind
theorem mv_ev (c : Rat) (l : List Rat) (x : Rat) : ev (mvs c l l.length) x = ev l (x - c) := by
  have h := mvs_ev c l x l.length (Nat.le_refl _)
  rw [List.take_of_length_le (by rw [mvs_len]; exact Nat.le_refl _), List.drop_of_length_le (by rw [mvs_len]; exact Nat.le_refl _)] at h
  rw [h]; simp only [ev]; grind
theorem mv_back (c : Rat) (l : List Rat) : mvs (-c) (mvs c l l.length) l.length = l := by
  refine ev_inj l.length _ _ 0 (by rw [mvs_len, mvs_len]) rfl fun x _ => ?_
  have h := mv_ev (-c) (mvs c l l.length) (x : Rat)
  rw [mvs_len] at h
  rw [h, mv_ev]
  congr 1; grind
def Gz (D : Int) (n : Nat) (q : Rat) : Prop := ∃ t : Int, q * (D : Rat) = (t : Rat) ∧ t.natAbs < 2 ^ n
theorem Gz.step {D Q u : Int} {n : Nat} {c p q : Rat} (hc : c * (Q : Rat) = (u : Rat)) (hb : Q.natAbs + u.natAbs ≤ 64) (hp : Gz D n p) (hq : Gz D n q) : Gz (D * Q) (n + 6) (p - c * q) := by
  obtain ⟨t, e1, b1⟩ := hp
  obtain ⟨s, e2, b2⟩ := hq
  refine ⟨t * Q - u * s, ?_, ?_⟩
  · rw [Rat.intCast_mul, Rat.intCast_sub, Rat.intCast_mul, Rat.intCast_mul]; grind
  · have h1 : (t * Q - u * s).natAbs ≤ t.natAbs * Q.natAbs + u.natAbs * s.natAbs := by
      have := Int.natAbs_sub_le (t * Q) (u * s)
      rwa [Int.natAbs_mul, Int.natAbs_mul] at this
    have h2 : t.natAbs * Q.natAbs ≤ (2 ^ n - 1) * Q.natAbs := Nat.mul_le_mul_right _ (by omega)
    have h3 : u.natAbs * s.natAbs ≤ u.natAbs * (2 ^ n - 1) := Nat.mul_le_mul_left _ (by omega)
    rw [Nat.mul_comm u.natAbs (2 ^ n - 1)] at h3
    have h4 : (2 ^ n - 1) * Q.natAbs + (2 ^ n - 1) * u.natAbs ≤ (2 ^ n - 1) * 64 := by rw [← Nat.mul_add]; exact Nat.mul_le_mul_left _ hb
    have h5 : 2 ^ (n + 6) = 2 ^ n * 64 := by rw [Nat.pow_add]
    have h6 : 0 < 2 ^ n := Nat.pow_pos (by decide)
    omega
theorem Gz.lift {D Q : Int} {n : Nat} {q : Rat} (hb : Q.natAbs ≤ 64) (h : Gz D n q) : Gz (D * Q) (n + 6) q := by
  have := Gz.step (c := 0) (Q := Q) (u := 0) (by rw [Rat.zero_mul]; rfl) (by simpa using hb) h h
  rwa [Rat.zero_mul, Rat.sub_eq_add_neg, Rat.neg_zero, Rat.add_zero] at this
theorem Gz.lifts {D Q : Int} {n : Nat} {q : Rat} (hb : Q.natAbs ≤ 64) (h : Gz D n q) (k : Nat) : Gz (D * Q ^ k) (n + 6 * k) q := by
  induction k with
  | zero => rw [Int.pow_zero, Int.mul_one]; exact h
  | succ k ih => rw [Int.pow_succ, ← Int.mul_assoc]; exact ih.lift hb
theorem Gz.zero (D : Int) (n : Nat) : Gz D n 0 := ⟨0, by rw [Rat.zero_mul]; rfl, Nat.pow_pos (by decide)⟩
theorem Gz.sz {D : Int} {n : Nat} {q : Rat} (h : Gz D n q) (h0 : D ≠ 0) (hD : D.natAbs < 2 ^ n) : NB.Sz n q := by
  obtain ⟨t, e, b⟩ := h
  have : q = Rat.divInt t D := by
    rw [Rat.divInt_eq_div, ← e]
    have : (D : Rat) ≠ 0 := by exact_mod_cast h0
    grind
  rw [this]
  exact NB.Sz.divInt h0 b hD
theorem Gz.mono {D : Int} {m n : Nat} {q : Rat} (h : Gz D m q) (hmn : m ≤ n) : Gz D n q := by
  obtain ⟨t, e, b⟩ := h
  exact ⟨t, e, Nat.lt_of_lt_of_le b (Nat.pow_le_pow_right (by decide) hmn)⟩
theorem hs_gz {D Q u : Int} {n : Nat} {c : Rat} (hc : c * (Q : Rat) = (u : Rat)) (hb : Q.natAbs + u.natAbs ≤ 64) : ∀ (k : Nat) (l : List Rat), l.length ≤ k → (∀ q ∈ l, Gz D n q) → ∀ q ∈ hs c l, Gz (D * Q ^ k) (n + 6 * k) q
  | _, [], _, _ => fun q hq => by simp [hs] at hq
  | 0, a :: t, h, _ => by simp at h
  | k + 1, a :: t, h, hl => by
    have ih := hs_gz hc hb k t (by simp at h; omega) (fun q hq => hl q (.tail _ hq))
    have hh : Gz (D * Q ^ k) (n + 6 * k) ((hs c t).headD 0) := by
      cases e : hs c t with
      | nil => exact Gz.zero _ _
      | cons b r => exact ih b (by rw [e]; exact .head _)
    intro q hq
    rw [Int.pow_succ, ← Int.mul_assoc, Nat.mul_succ, ← Nat.add_assoc]
    simp only [hs, List.mem_cons] at hq
    rcases hq with rfl | hq
    · exact Gz.step hc hb ((hl a (.head _)).lifts (by omega) k) hh
    · exact (ih q hq).lift (by omega)
theorem hsp_gz {D Q u : Int} {n : Nat} {c : Rat} (hc : c * (Q : Rat) = (u : Rat)) (hb : Q.natAbs + u.natAbs ≤ 64) (k : Nat) (l : List Rat) (h : l.length ≤ 13) (hl : ∀ q ∈ l, Gz D n q) : ∀ q ∈ hsp c k l, Gz (D * Q ^ 13) (n + 78) q := by
  intro q hq
  unfold hsp at hq
  rcases List.mem_append.mp hq with hq | hq
  · exact (hl q (List.mem_of_mem_take hq)).lifts (by omega) 13
  · exact hs_gz hc hb 13 (l.drop k) (by rw [List.length_drop]; omega) (fun q hq => hl q (List.mem_of_mem_drop hq)) q hq
theorem mvs_gz {D Q u : Int} {n : Nat} {c : Rat} (hc : c * (Q : Rat) = (u : Rat)) (hb : Q.natAbs + u.natAbs ≤ 64) (l : List Rat) (h : l.length ≤ 13) (hl : ∀ q ∈ l, Gz D n q) (d : Nat) : ∀ q ∈ mvs c l d, Gz (D * Q ^ (13 * d)) (n + 78 * d) q := by
  induction d with
  | zero => rw [Int.pow_zero, Int.mul_one]; exact hl
  | succ d ih =>
    have := hsp_gz hc hb d (mvs c l d) (by rw [mvs_len]; exact h) ih
    rw [Int.mul_assoc, ← Int.pow_add] at this
    exact this
def st (k : Rat) : Rat → List Rat → List Rat
  | _, [] => []
  | p, a :: t => a / p :: st k (p * k) t
theorem st_len (k p : Rat) (l : List Rat) : (st k p l).length = l.length := by
  induction l generalizing p with
  | nil => rfl
  | cons a t ih => simp only [st, List.length_cons, ih]
theorem st_snoc (k p : Rat) (l : List Rat) (a : Rat) : st k p (l ++ [a]) = st k p l ++ [a / (p * k ^ l.length)] := by
  induction l generalizing p with
  | nil => simp only [st, List.nil_append, List.length_nil, Rat.pow_zero, Rat.mul_one]
  | cons b t ih =>
    simp only [List.cons_append, st, ih, List.length_cons]
    have : p * k * k ^ t.length = p * k ^ (t.length + 1) := by rw [Rat.pow_succ]; grind
    rw [this]
theorem st_ev (k : Rat) (hk : k ≠ 0) (l : List Rat) (x : Rat) : ∀ p : Rat, p ≠ 0 → p * ev (st k p l) x = ev l (x * k⁻¹) := by
  induction l with
  | nil => intro p _; simp only [st, ev]; grind
  | cons a t ih =>
    intro p hp
    have h := ih (p * k) (by intro z; rcases Rat.mul_eq_zero.mp z with z | z; exact hp z; exact hk z)
    simp only [st, ev]
    rw [← h]
    have e1 : p * (a / p) = a := by rw [Rat.div_def]; grind
    have e2 : k⁻¹ * k = 1 := by grind
    grind
theorem st_back (k : Rat) (hk : k ≠ 0) (l : List Rat) : ∀ p : Rat, p ≠ 0 → st k⁻¹ p⁻¹ (st k p l) = l := by
  induction l with
  | nil => intro p _; rfl
  | cons a t ih =>
    intro p hp
    have h := ih (p * k) (by intro z; rcases Rat.mul_eq_zero.mp z with z | z; exact hp z; exact hk z)
    have e1 : a / p / p⁻¹ = a := by grind
    have e2 : p⁻¹ * k⁻¹ = (p * k)⁻¹ := by grind
    simp only [st]
    rw [e1, e2, h]
theorem sz_pow {k : Rat} (hk : NB.Sz 4 k) (i : Nat) : NB.Sz (4 * i + 1) (k ^ i) := by
  induction i with
  | zero => rw [Rat.pow_zero]; exact ⟨by decide, by decide⟩
  | succ i ih => rw [Rat.pow_succ]; exact (ih.mul hk).mono (by omega)
theorem trim_inj {l m : List Rat} (h : ∀ x : Rat, ev l x = ev m x) : trim l = trim m := by
  have e : l ++ List.replicate m.length 0 = m ++ List.replicate l.length 0 := by
    refine ev_inj (l.length + m.length) _ _ 0 (by simp) (by simp; omega) fun x _ => ?_
    rw [ev_append, ev_append, ev_zeros, ev_zeros, h]
    grind
  rw [← trim_zeros l m.length, e, trim_zeros]
theorem ev_scale (a : Rat) (l : List Rat) (x : Rat) : ev (l.map (a * ·)) x = a * ev l x := by
  induction l with
  | nil => simp only [List.map_nil, ev]; grind
  | cons b t ih => simp only [List.map_cons, ev, ih]; grind
theorem ev_zip : ∀ (l m : List Rat) (x : Rat), l.length = m.length → ev (List.zipWith (· + ·) l m) x = ev l x + ev m x
  | [], [], x, _ => by simp only [List.zipWith_nil_left, ev]; grind
  | [], _ :: _, _, h => by simp at h
  | _ :: _, [], _, h => by simp at h
  | a :: t, b :: s, x, h => by
    have ih := ev_zip t s x (by simpa using h)
    simp only [List.zipWith_cons_cons, ev, ih]; grind
theorem ex_add (n : Nat) (l m : List Rat) (a : Rat) (h1 : l.length ≤ n) (h2 : m.length ≤ n) : ∃ d : List Rat, d.length = n ∧ ∀ x, ev d x = ev l x + a * ev m x := by
  refine ⟨List.zipWith (· + ·) (l ++ List.replicate (n - l.length) 0) (m.map (a * ·) ++ List.replicate (n - m.length) 0), by simp; omega, fun x => ?_⟩
  rw [ev_zip _ _ _ (by simp; omega), ev_append, ev_append, ev_zeros, ev_zeros, ev_scale]; grind
theorem ex_mul : ∀ l m : List Rat, ∃ p : List Rat, p.length = l.length + m.length ∧ ∀ x, ev p x = ev l x * ev m x
  | [], m => ⟨List.replicate m.length 0, by simp, fun x => by rw [ev_zeros]; simp only [ev]; grind⟩
  | a :: t, m => by
    obtain ⟨p, h1, h2⟩ := ex_mul t m
    obtain ⟨d, d1, d2⟩ := ex_add ((a :: t).length + m.length) (0 :: p) m a (by simp; omega) (by simp)
    refine ⟨d, d1, fun x => ?_⟩
    rw [d2]; simp only [ev, h2]; grind
theorem rpow_add (x : Rat) (m n : Nat) : x ^ (m + n) = x ^ m * x ^ n := by
  induction n with
  | zero => rw [Nat.add_zero, Rat.pow_zero]; grind
  | succ n ih => rw [← Nat.add_assoc, Rat.pow_succ, Rat.pow_succ, ih]; grind
theorem mul_last (l m : List Rat) (a b : Rat) : ∃ p : List Rat, p.length = l.length + m.length ∧ ∀ x, ev (l ++ [a]) x * ev (m ++ [b]) x = ev (p ++ [a * b]) x := by
  obtain ⟨p, h1, h2⟩ := ex_mul l m
  obtain ⟨d, d1, d2⟩ := ex_add (l.length + m.length) p (List.replicate l.length 0 ++ m) a (by omega) (by simp)
  obtain ⟨c, c1, c2⟩ := ex_add (l.length + m.length) d (List.replicate m.length 0 ++ l) b (by omega) (by simp; omega)
  refine ⟨c, c1, fun x => ?_⟩
  rw [ev_append, ev_append, ev_append, c2, d2, h2, ev_append, ev_append, ev_zeros, ev_zeros, c1]
  simp only [List.length_replicate, ev, rpow_add]
  grind
theorem evSet : ∀ (l : List Rat) (j : Nat) (v u x : Rat), l[j]? = some u → ev (l.set j v) x = ev l x + x ^ j * (v - u)
  | [], j, v, u, x, h => by simp at h
  | a :: t, 0, v, u, x, h => by
    simp at h; subst h
    simp only [List.set_cons_zero, ev, Rat.pow_zero]; grind
  | a :: t, j + 1, v, u, x, h => by
    have ih := evSet t j v u x (by simpa using h)
    simp only [List.set_cons_succ, ev, ih, Rat.pow_succ]; grind
theorem ev_take (b : List Rat) (k : Nat) (v x : Rat) (h : b[k]? = some v) : ev (b.take (k + 1)) x = ev (b.take k) x + x ^ k * v := by
  have hk : k < b.length := by
    by_cases c : k < b.length
    · exact c
    · rw [List.getElem?_eq_none (by omega)] at h; cases h
  have e : b.take (k + 1) = b.take k ++ [v] := by rw [List.take_succ, h]; rfl
  rw [e, ev_append, List.length_take, Nat.min_eq_left (by omega)]
  simp only [ev]; grind
def addP (s : Rat) : List Rat → List Rat → List Rat
  | [], m => m.map (s * ·)
  | l, [] => l
  | a :: l, b :: m => (a + s * b) :: addP s l m
theorem addP_len (s : Rat) : ∀ l m : List Rat, (addP s l m).length = max l.length m.length
  | [], m => by simp [addP]
  | a :: l, [] => by simp [addP]
  | a :: l, b :: m => by simp only [addP, List.length_cons, addP_len s l m]; omega
theorem addP_get (s : Rat) : ∀ (l m : List Rat) (i : Nat), i < max l.length m.length → (addP s l m)[i]? = some (l.getD i 0 + s * m.getD i 0)
  | [], m, i, h => by
    have hi : i < m.length := by simpa using h
    simp only [addP, List.getElem?_map, List.getElem?_eq_getElem hi, List.getD_eq_getElem?_getD, List.getElem?_nil, Option.map_some, Option.getD_none, Option.getD_some]
    congr 1; grind
  | a :: l, [], i, h => by
    have hi : i < (a :: l).length := by simpa using h
    simp only [addP, List.getElem?_eq_getElem hi, List.getD_eq_getElem?_getD, List.getElem?_nil, Option.getD_none, Option.getD_some]
    congr 1; grind
  | a :: l, b :: m, 0, _ => by simp [addP]
  | a :: l, b :: m, i + 1, h => by
    have ih := addP_get s l m i (by simp at h; omega)
    simpa [addP] using ih
theorem addP_ev (s : Rat) (x : Rat) : ∀ l m : List Rat, ev (addP s l m) x = ev l x + s * ev m x
  | [], m => by simp only [addP, ev_scale, ev]; grind
  | a :: l, [] => by simp only [addP, ev]; grind
  | a :: l, b :: m => by simp only [addP, ev, addP_ev s x l m]; grind
def slF : Nat → List Rat → List Rat
  | _, [] => []
  | k, a :: t => a * (k : Rat) :: slF (k + 1) t
def sl (l : List Rat) : List Rat := slF 1 l.tail
def dev : List Rat → Rat → Rat
  | [], _ => 0
  | _ :: t, x => ev t x + x * dev t x
theorem slF_len : ∀ (k : Nat) (l : List Rat), (slF k l).length = l.length
  | _, [] => rfl
  | k, a :: t => by simp only [slF, List.length_cons, slF_len (k + 1) t]
theorem sl_len (l : List Rat) : (sl l).length = l.length - 1 := by unfold sl; rw [slF_len, List.length_tail]
theorem slF_get : ∀ (k : Nat) (l : List Rat) (i : Nat) (a : Rat), l[i]? = some a → (slF k l)[i]? = some (a * ((k + i : Nat) : Rat))
  | _, [], i, a, h => by simp at h
  | k, b :: t, 0, a, h => by simp at h; subst h; simp [slF]
  | k, b :: t, i + 1, a, h => by
    have ih := slF_get (k + 1) t i a (by simpa using h)
    have e : k + 1 + i = k + (i + 1) := by omega
    rw [e] at ih
    simpa [slF] using ih
theorem slF_ev (x : Rat) : ∀ (k : Nat) (l : List Rat), ev (slF k l) x = (k : Rat) * ev l x + x * dev l x
  | k, [] => by simp only [slF, ev, dev]; grind
  | k, a :: t => by
    simp only [slF, ev, dev, slF_ev x (k + 1) t]
    have : ((k + 1 : Nat) : Rat) = (k : Rat) + 1 := by simp
    rw [this]; grind
theorem sl_ev (x : Rat) (l : List Rat) : ev (sl l) x = dev l x := by
  cases l with
  | nil => rfl
  | cons a t =>
    show ev (slF 1 t) x = ev t x + x * dev t x
    rw [slF_ev]
    have : ((1 : Nat) : Rat) = 1 := rfl
    rw [this]; grind
theorem addP_dev (s : Rat) (x : Rat) : ∀ l m : List Rat, dev (addP s l m) x = dev l x + s * dev m x
  | [], [] => by simp only [addP, List.map_nil, dev]; grind
  | [], b :: m => by
    have h := addP_dev s x [] m
    simp only [addP, List.map_cons, dev, ev_scale] at h ⊢
    rw [h]; grind
  | a :: l, [] => by simp only [addP, dev]; grind
  | a :: l, b :: m => by simp only [addP, dev, addP_dev s x l m, addP_ev]; grind
theorem ex_mulD : ∀ l m : List Rat, ∃ p : List Rat, (∀ x, ev p x = ev l x * ev m x) ∧ (∀ x, dev p x = dev l x * ev m x + ev l x * dev m x)
  | [], m => ⟨[], fun x => by simp only [ev]; grind, fun x => by simp only [dev, ev]; grind⟩
  | a :: t, m => by
    obtain ⟨p, h1, h2⟩ := ex_mulD t m
    refine ⟨addP a (0 :: p) m, fun x => ?_, fun x => ?_⟩
    · rw [addP_ev]; simp only [ev, h1]; grind
    · rw [addP_dev]; simp only [dev, ev, h1, h2]; grind
theorem dev_zeros (n : Nat) (x : Rat) : dev (List.replicate n 0) x = 0 := by
  induction n with
  | zero => rfl
  | succ n ih => simp only [List.replicate_succ, dev, ih, ev_zeros]; grind
theorem dev_app (n : Nat) (x : Rat) (l : List Rat) : dev (l ++ List.replicate n 0) x = dev l x := by
  induction l with
  | nil => rw [List.nil_append, dev_zeros]; rfl
  | cons a t ih =>
    simp only [List.cons_append, dev, ih]
    rw [ev_append, ev_zeros]; grind
theorem dev_trim (l : List Rat) (x : Rat) : dev (trim l) x = dev l x := by
  obtain ⟨n, e⟩ := trim_ex l
  conv => rhs; rw [e]
  rw [dev_app]
theorem dev_mul {P l m : List Rat} (h : ∀ x, ev P x = ev l x * ev m x) (x : Rat) : dev P x = dev l x * ev m x + ev l x * dev m x := by
  obtain ⟨p, h1, h2⟩ := ex_mulD l m
  have e : trim P = trim p := trim_inj fun x => by rw [h, h1]
  rw [← dev_trim, e, dev_trim, h2]
theorem tt (l : List Rat) : trim (trim l) = trim l := by
  rcases trim_last l with z | ⟨m, a, e, ha⟩
  · rw [z]; rfl
  · rw [e, trim_snoc ha]
theorem trim_mem {l : List Rat} {v : Rat} (h : v ∈ trim l) : v ∈ l := by
  obtain ⟨n, e⟩ := trim_ex l
  rw [e]; exact List.mem_append_left _ h
theorem mul_len {F l m : List Rat} (tl : trim l = l) (tm : trim m = m) (l0 : l ≠ []) (m0 : m ≠ []) (h : ∀ x, ev F x = ev l x * ev m x) : (trim F).length = l.length + m.length - 1 := by
  rcases trim_last l with z | ⟨l', a, el, ha⟩
  · rw [tl] at z; exact absurd z l0
  · rcases trim_last m with z | ⟨m', b, em, hb⟩
    · rw [tm] at z; exact absurd z m0
    · rw [tl] at el
      rw [tm] at em
      obtain ⟨p, p1, p2⟩ := mul_last l' m' a b
      have e : trim F = trim (p ++ [a * b]) := trim_inj fun x => by rw [h, el, em, p2]
      rw [e, trim_snoc (by intro z; rcases Rat.mul_eq_zero.mp z with z | z; exact ha z; exact hb z), el, em]
      simp [p1]; omega
def PT (l : List Rat) : Prop := l = [] ∨ ∃ m a, l = m ++ [a] ∧ 0 < a
theorem ev_rng3 {δ : List Sl} {fa : List Sl → M (List Rz)} {i j : Int} {m : Nat} (h : fa δ = okM [.dat (.int i), .dat (.int j), .dat (.int (-1))]) (h0 : -(2 ^ 62) ≤ i ∧ i < 2 ^ 62) (h1 : -(2 ^ 62) ≤ j) (h2 : j < 2 ^ 62) (hm : (i - j).toNat = m) : fR rng3 fa δ = okM (rangeD i m) := by
  unfold fR; rw [h, bnd_okM]
  show (if -(2 ^ 62) ≤ i ∧ i < 2 ^ 62 ∧ -(2 ^ 62) ≤ j ∧ j < 2 ^ 62 then okM (rangeD i (i - j).toNat) else none) = _
  rw [if_pos ⟨h0.1, h0.2, h1, h2⟩, hm]
theorem rangeD_at {lo : Int} {m i : Nat} {d : PyData} (h : (rangeD lo m)[i]? = some d) : i < m ∧ d = .int (lo - (i : Int)) := by
  unfold rangeD at h
  rw [List.getElem?_map] at h
  have hi : i < m := by
    by_cases c : i < m
    · exact c
    · rw [List.getElem?_eq_none (by rw [List.length_range]; omega)] at h; cases h
  rw [List.getElem?_range hi] at h
  cases h
  exact ⟨hi, rfl⟩
theorem rangeD_len (lo : Int) (m : Nat) : (rangeD lo m).length = m := by unfold rangeD; rw [List.length_map, List.length_range]
theorem len_cD (l : List Rat) : g1 lenOf [Rz.dat (cD l)] = okM (.dat (.int (l.length : Int))) := by
  show okM (Rz.dat (PyData.int ((l.map nD).length : Int))) = _
  rw [List.length_map]
theorem ixN_nat {n k : Nat} {i : Int} (hi : i = (k : Int)) (h : k < n) : L2.ixN n i = some k := by
  subst hi
  unfold L2.ixN
  rw [if_pos (by omega), if_pos (by omega), Int.toNat_natCast]
theorem getE {l : List Rat} {j : Nat} (h : j < l.length) : ∃ v, l[j]? = some v := ⟨l[j], List.getElem?_eq_getElem h⟩
theorem lc_list (fe : List Sl → M Rz) (δ : List Sl) : ∀ (items : List PyData) (l : List Rat), items.length = l.length → (∀ (i : Nat) (d : PyData) (q : Rat), items[i]? = some d → l[i]? = some q → fe (.dat d :: δ) = okM (.dat (nD q))) → lcN fTrue fe δ items = some (l.map nD)
  | [], [], _, _ => rfl
  | [], _ :: _, h, _ => by simp at h
  | _ :: _, [], h, _ => by simp at h
  | d :: r, q :: l, h, hf => by
    have e := hf 0 d q rfl rfl
    have ih := lc_list fe δ r l (by simpa using h) fun i d q h1 h2 => hf (i + 1) d q (by simpa using h1) (by simpa using h2)
    unfold lcN
    show (match fe (.dat d :: δ) with | some (.ok z) => (match datOf z, lcN fTrue fe δ r with | some e, some es => some (e :: es) | _, _ => none) | _ => none) = _
    rw [e]
    show (match some (nD q), lcN fTrue fe δ r with | some e, some es => some (e :: es) | _, _ => none) = _
    rw [ih]; rfl
theorem szD {n : Nat} {l : List Rat} (h : ∀ v ∈ l, NB.Sz n v) (i : Nat) : NB.Sz (n + 1) (l.getD i 0) := by
  rw [List.getD_eq_getElem?_getD]
  cases e : l[i]? with
  | none => exact NB.Sz.zero (by omega)
  | some v => exact (h v (List.mem_of_getElem? e)).mono (by omega)
theorem P_number_at (l : List Rat) (i : Nat) : F_number_at [cD l, .int (i : Int)] = okM (.val (nD (l.getD i 0))) := by
  refine ev_fn rfl ?_
  show B_number_at [.dat (cD l), .dat (.int (i : Int))] = _
  unfold B_number_at
  have c : fB (f2 (gI gLt) (fVar 1) (fCall (g1 lenOf) (fCons (fVar 0) fNil))) [.dat (cD l), .dat (.int (i : Int))] = okM (decide ((i : Int) < (l.length : Int))) := ev_fB (ev_f2 rfl (ev_call rfl (len_cD l)) rfl) rfl
  by_cases h : i < l.length
  · refine ev_sifT (by rw [c, decide_eq_true (by omega)]) (ev_sret (ev_f2 rfl rfl (ix_tup (j := i) (d := nD l[i]) rfl (get_nD (List.getElem?_eq_getElem h)))) ?_)
    rw [List.getD_eq_getElem?_getD, List.getElem?_eq_getElem h]; rfl
  · refine ev_sifF (by rw [c, decide_eq_false (by omega)]) (ev_snext (ev_ret rfl ?_))
    rw [List.getD_eq_getElem?_getD, List.getElem?_eq_none (by omega)]; rfl
theorem P_taken (l m : List Rat) (zl : ∀ v ∈ l, NB.Sz 1900 v) (zm : ∀ v ∈ m, NB.Sz 1900 v) (hl : l.length ≤ 1000) (hm : m.length ≤ 1000) (h13 : (trim (addP (-1) l m)).length ≤ 13) : F_taken [cD l, cD m] = okM (.val (cD (trim (addP (-1) l m)))) := by
  refine ev_fn rfl ?_
  show B_taken [.dat (cD l), .dat (cD m), .no] = _
  unfold B_taken
  have sl : (sizeLine : Nat) = 16777216 := rfl
  obtain ⟨M, hM⟩ : ∃ M : Nat, M = max l.length m.length := ⟨_, rfl⟩
  refine ev_sset (x := .dat (.int (M : Int))) (ev_call (ecz (ev_call rfl (len_cD l)) (ecz (ev_call rfl (len_cD m)) rfl)) (?_ : g2 (gI gMax) [.dat (.int (l.length : Int)), .dat (.int (m.length : Int))] = okM (.dat (.int (M : Int))))) rfl (by walk_at "ss") ?_
  · show okM (Rz.dat (PyData.int (if (m.length : Int) > (l.length : Int) then (m.length : Int) else (l.length : Int)))) = _
    congr 4
    split <;> omega
  have hLC : (fLC (fR rng1 (fCons (fVar 2) fNil)) fTrue (fCall (gF 2 F_minus) (fCons (fCall (gF 2 F_number_at) (fCons (fVar 1) (fCons (fVar 0) fNil))) (fCons (fCall (gF 2 F_number_at) (fCons (fVar 2) (fCons (fVar 0) fNil))) fNil)))) [.dat (cD l), .dat (cD m), .dat (.int (M : Int))] = okM (.new ((addP (-1) l m).map nD)) := by
    unfold fLC
    rw [ev_rng1 (m := M) (ecz rfl rfl) (by omega) (by omega) (by omega), bnd_okM, if_pos (by rw [range_len]; omega), lc_list (fCall (gF 2 F_minus) (fCons (fCall (gF 2 F_number_at) (fCons (fVar 1) (fCons (fVar 0) fNil))) (fCons (fCall (gF 2 F_number_at) (fCons (fVar 2) (fCons (fVar 0) fNil))) fNil))) [.dat (cD l), .dat (cD m), .dat (.int (M : Int))] (rangeL 0 M) (addP (-1) l m) (by rw [range_len, addP_len, hM]) ?_]
    intro i d q hi hq
    obtain ⟨hi1, rfl⟩ := range_at hi
    rw [addP_get (-1) l m i (by omega)] at hq
    cases hq
    have e0 : (0 : Int) + (i : Int) = (i : Int) := by omega
    rw [e0]
    have e1 : l.getD i 0 + (-1) * m.getD i 0 = l.getD i 0 - m.getD i 0 := by grind
    rw [e1]
    exact ev_call (ecz (ev_call (ecz rfl (ecz rfl rfl)) (ev_gF rfl rfl (P_number_at l i) (outZ_num _))) (ecz (ev_call (ecz rfl (ecz rfl rfl)) (ev_gF rfl rfl (P_number_at m i) (outZ_num _))) rfl)) (ev_gF rfl rfl (P_minus _ _ ((szD zl i).mono (by decide)) ((szD zm i).mono (by decide))) (outZ_num _))
  exact ev_ret (ev_call (ecz hLC rfl) (ev_gF (ds := [lD (addP (-1) l m)]) rfl rfl (P_curve_of _ h13) (outZ_cur _))) rfl
theorem rep_nD (k : Nat) (hk : k ≤ 1000) : gRep (.new [nD 0]) (.dat (.int (k : Int))) = okM (.new ((List.replicate k (0 : Rat)).map nD)) := by
  have sl : (sizeLine : Nat) = 16777216 := rfl
  unfold gRep ownOf Rz.d?
  dsimp only
  rw [if_pos (by refine ⟨by omega, by omega, ?_⟩; simp; omega)]
  have : (List.replicate (k : Int).toNat [nD 0]).flatten = (List.replicate k (0 : Rat)).map nD := by
    rw [Int.toNat_natCast, List.map_replicate]
    clear hk
    induction k with
    | zero => rfl
    | succ k ih => rw [List.replicate_succ, List.flatten_cons, ih, List.replicate_succ]; rfl
  rw [this]
theorem P_slope (l : List Rat) (zl : ∀ v ∈ l, NB.Sz 1900 v) (hl : l.length ≤ 1000) : F_slope [cD l] = okM (.val (cD (sl l))) := by
  refine ev_fn rfl ?_
  show B_slope [.dat (cD l)] = _
  unfold B_slope
  have sz : (sizeLine : Nat) = 16777216 := rfl
  have hLC : (fLC (fR rng2 (fCons (fC (.int 1)) (fCons (fCall (g1 lenOf) (fCons (fVar 0) fNil)) fNil))) fTrue (fCall (gF 2 F_times) (fCons (f2 gIx (fVar 1) (fVar 0)) (fCons (fCall (gF 2 F_number) (fCons (fVar 0) (fCons (fC (.int 1)) fNil))) fNil)))) [.dat (cD l)] = okM (.new ((sl l).map nD)) := by
    unfold fLC
    rw [ev_rng2 (m := l.length - 1) (ecz rfl (ecz (ev_call rfl (len_cD l)) rfl)) (by decide) (by omega) (by omega) (by omega), bnd_okM, if_pos (by rw [range_len]; omega), lc_list (fCall (gF 2 F_times) (fCons (f2 gIx (fVar 1) (fVar 0)) (fCons (fCall (gF 2 F_number) (fCons (fVar 0) (fCons (fC (.int 1)) fNil))) fNil))) [.dat (cD l)] (rangeL 1 (l.length - 1)) (sl l) (by rw [range_len, sl_len]) ?_]
    intro i d q hi hq
    obtain ⟨hi1, rfl⟩ := range_at hi
    obtain ⟨a, ha⟩ := getE (l := l) (j := 1 + i) (by omega)
    have hg : (sl l)[i]? = some (a * ((1 + i : Nat) : Rat)) := by
      unfold sl
      refine slF_get 1 l.tail i a ?_
      rw [List.getElem?_tail, Nat.add_comm]; exact ha
    rw [hg] at hq
    cases hq
    have ei : (1 : Int) + (i : Int) = ((1 + i : Nat) : Int) := by omega
    rw [ei]
    have en : Rat.divInt ((1 + i : Nat) : Int) 1 = ((1 + i : Nat) : Rat) := by
      rw [Rat.divInt_eq_div]
      show (((1 + i : Nat) : Int) : Rat) / 1 = _
      rw [Rat.intCast_natCast]; grind
    have zn : NB.Sz 4000 ((1 + i : Nat) : Rat) := by
      rw [← en]; exact NB.Sz.divInt (by decide) (Nat.lt_of_lt_of_le (m := 2 ^ 10) (by omega) (Nat.pow_le_pow_right (by decide) (by decide))) (Nat.lt_of_lt_of_le (m := 2 ^ 10) (by decide) (Nat.pow_le_pow_right (by decide) (by decide)))
    exact ev_call (ecz (ev_f2 rfl rfl (ix_tup (j := 1 + i) rfl (get_nD ha))) (ecz (ev_call (ecz rfl (ecz rfl rfl)) (ev_gF rfl rfl (F_num _ 1 (by decide) (Nat.lt_of_lt_of_le (m := 2 ^ 10) (by decide) (Nat.pow_le_pow_right (by decide) (by decide)))) (by rw [en, outZ_num]))) rfl)) (ev_gF rfl rfl (P_times a _ ((zl a (List.mem_of_getElem? ha)).mono (by decide)) zn) (outZ_num _))
  exact ev_ret (ev_call (ecz hLC rfl) rfl) rfl
def scr (ns : List Int) : PyData := .list (ns.map PyData.int)
theorem ev_fI {δ : List Sl} {g : Rz → M (List PyData)} {f : List Sl → M Rz} {x : Rz} {items : List PyData} (h1 : f δ = okM x) (h2 : g x = okM items) : fI g f δ = okM items := by unfold fI; rw [h1, bnd_okM, h2]
theorem lc_ex (fe : List Sl → M Rz) (δ : List Sl) (Pq : Rat → Prop) : ∀ (items : List PyData), (∀ d ∈ items, ∃ q, fe (.dat d :: δ) = okM (.dat (nD q)) ∧ Pq q) → ∃ l : List Rat, l.length = items.length ∧ (∀ q ∈ l, Pq q) ∧ lcN fTrue fe δ items = some (l.map nD)
  | [], _ => ⟨[], rfl, fun q h => (nomatch h), rfl⟩
  | d :: r, h => by
    obtain ⟨q, e, hq⟩ := h d (List.mem_cons_self ..)
    obtain ⟨l, h1, h2, h3⟩ := lc_ex fe δ Pq r fun d hd => h d (List.mem_cons_of_mem _ hd)
    refine ⟨q :: l, by simp [h1], fun p hp => ?_, ?_⟩
    · rcases List.mem_cons.mp hp with rfl | hp
      · exact hq
      · exact h2 p hp
    · unfold lcN
      show (match fe (.dat d :: δ) with | some (.ok z) => (match datOf z, lcN fTrue fe δ r with | some e, some es => some (e :: es) | _, _ => none) | _ => none) = _
      rw [e]
      show (match some (nD q), lcN fTrue fe δ r with | some e, some es => some (e :: es) | _, _ => none) = _
      rw [h3]; rfl
theorem range_mem {lo : Int} {m : Nat} {d : PyData} (h : d ∈ rangeL lo m) : ∃ i : Nat, i < m ∧ d = .int (lo + (i : Int)) := by
  obtain ⟨i, hi⟩ := List.getElem?_of_mem h
  obtain ⟨h1, h2⟩ := range_at hi
  exact ⟨i, h1, h2⟩
theorem mv_pass (l0 l : List Rat) (c : Rat) (d : Nat) (hd : d < l.length) (hn : l0.length = l.length) (h13 : l.length ≤ 13) (hz : ∀ k, ∀ q ∈ hsp c k l, NB.Sz 3000 q) (zc : NB.Sz 6 c) (r : Sl) :
    ∃ r', ZZ5 [.dat (cD l0), .dat (nD c), .own (l.map nD), .dat (.int (d : Int)), r] = some (.next [.dat (cD l0), .dat (nD c), .own ((hsp c d l).map nD), .dat (.int (d : Int)), r']) := by
  obtain ⟨δ', e, r', rfl⟩ := forN_inv (g := tName 4) (b := ZZ7) (δ := [.dat (cD l0), .dat (nD c), .own (l.map nD), .dat (.int (d : Int)), r])
    (fun i δ => ∃ r, δ = [.dat (cD l0), .dat (nD c), .own ((hsp c (l.length - 1 - i) l).map nD), .dat (.int (d : Int)), r]) (rangeD ((l.length : Int) - 2) (l.length - 1 - d)) ⟨r, by rw [Nat.sub_zero, hsp_last]⟩
    (by
      rintro i dd δ hi ⟨r, rfl⟩
      obtain ⟨hi1, rfl⟩ := rangeD_at hi
      obtain ⟨k, hk⟩ : ∃ k : Nat, l.length - 1 - i = k + 1 := ⟨l.length - 2 - i, by omega⟩
      obtain ⟨a, b, ha, hb, hst⟩ := hsp_step c k l (by omega)
      have hk2 : l.length - 1 - (i + 1) = k := by omega
      rw [hk]
      have hp : (l.length : Int) - 2 - (i : Int) = (k : Int) := by omega
      have za := hz (k + 1) a (List.mem_of_getElem? ha)
      have zb := hz (k + 1) b (List.mem_of_getElem? hb)
      have hlen : ((hsp c (k + 1) l).map nD).length = l.length := by rw [List.length_map, hsp_len]
      refine ⟨_, [.dat (cD l0), .dat (nD c), .own ((hsp c k l).map nD), .dat (.int (d : Int)), .dat (.int ((l.length : Int) - 2 - (i : Int)))], rfl, .inl ?_, .dat (.int ((l.length : Int) - 2 - (i : Int))), by rw [hk2]⟩
      refine ev_put (x := .dat (nD (a - c * b))) (j := k) (ev_call (ecz (ev_f2 rfl rfl (ix_var (j := k) hp (get_nD ha))) (ecz (ev_call (ecz rfl (ecz (ev_f2 rfl (ev_f2 rfl rfl rfl) (ix_var (j := k + 1) (by rw [hp]; rfl) (get_nD hb))) rfl)) (ev_gF rfl rfl (P_times c b (zc.mono (by decide)) (zb.mono (by decide))) (outZ_num _))) rfl)) (ev_gF rfl rfl (P_minus a (c * b) (za.mono (by decide)) ((zc.mul zb).mono (by decide))) (outZ_num _))) rfl rfl rfl rfl (ixN_nat hp (by rw [hlen]; omega)) ?_
      rw [hst, List.map_set]; rfl)
  refine ⟨r', ev_for (ev_rng3 (m := l.length - 1 - d) (ecz (ev_f2 (ev_call rfl (len_cD l0)) rfl rfl) (ecz (ev_f2 rfl rfl rfl) (ecz (ev_fU rfl rfl) rfl))) (by omega) (by omega) (by omega) (by omega)) ?_⟩
  rw [rangeD_len] at e
  have e1 : l.length - 1 - (l.length - 1 - d) = d := by omega
  rw [e1] at e
  rw [hn]; exact e
theorem P_moved (l : List Rat) (c : Rat) (h13 : l.length ≤ 13) (hz : ∀ d, d < l.length → ∀ k, ∀ q ∈ hsp c k (mvs c l d), NB.Sz 3000 q) (zc : NB.Sz 6 c) : F_moved [cD l, nD c] = okM (.val (cD (mvs c l l.length))) := by
  refine ev_fn rfl ?_
  show B_moved [.dat (cD l), .dat (nD c), .no, .no, .no] = _
  unfold B_moved
  refine ev_sset (x := .new (l.map nD)) (ev_call rfl rfl) rfl (by walk_at "ss") ?_
  obtain ⟨δ', e, r3, r4, rfl⟩ := forN_inv (g := tName 3) (b := ZZ5) (δ := [.dat (cD l), .dat (nD c), .own (l.map nD), .no, .no])
    (fun d δ => ∃ r3 r4, δ = [.dat (cD l), .dat (nD c), .own ((mvs c l d).map nD), r3, r4]) (rangeL 0 l.length) ⟨.no, .no, rfl⟩
    (by
      rintro d dd δ hd ⟨r3, r4, rfl⟩
      obtain ⟨hd1, rfl⟩ := range_at hd
      have hl := mvs_len c l d
      obtain ⟨r', e⟩ := mv_pass l (mvs c l d) c d (by omega) hl.symm (by omega) (hz d hd1) zc r4
      have e0 : (0 : Int) + (d : Int) = (d : Int) := by omega
      rw [e0]
      exact ⟨_, _, rfl, .inl e, _, _, rfl⟩)
  rw [range_len] at e
  exact ev_seq (ev_for (ev_rng1 (m := l.length) (ecz (ev_call rfl (len_cD l)) rfl) (by omega) (by omega) (by omega)) e) (ev_ret (ev_call rfl rfl) rfl)
theorem len_scr (ns : List Int) : g1 lenOf [Rz.dat (scr ns)] = okM (.dat (.int (ns.length : Int))) := by
  show okM (Rz.dat (PyData.int ((ns.map PyData.int).length : Int))) = _
  rw [List.length_map]
theorem L_cell (ns : List Int) (k : Int) (h0 : 0 ≤ k) (h1 : k ≤ 1000000) : ∃ c : Int, FL_cell_at [scr ns, .int k] = okM (.val (.int c)) := by
  have hat : ∀ j : Nat, j < ns.length → (ns.map PyData.int)[j]? = some (.int (ns.getD j 0)) := fun j hj => by
    rw [List.getElem?_map, List.getElem?_eq_getElem hj, List.getD_eq_getElem?_getD, List.getElem?_eq_getElem hj]; rfl
  by_cases c : k < (ns.length : Int)
  · refine ⟨ns.getD k.toNat 0, ev_fn rfl ?_⟩
    show BL_cell_at [.dat (scr ns), .dat (.int k)] = _
    unfold BL_cell_at
    refine ev_sifT (by rw [ev_fB (ev_f2 rfl (ev_call rfl (len_scr ns)) rfl) rfl]; exact congrArg okM (decide_eq_true c)) ?_
    exact ev_sret (ev_f2 rfl rfl (ix_lst (j := k.toNat) (by omega) (hat _ (by omega)))) rfl
  · by_cases cn : (ns.length : Int) = 0
    · refine ⟨k * k * 48271 + 7 * k, ev_fn rfl ?_⟩
      show BL_cell_at [.dat (scr ns), .dat (.int k)] = _
      unfold BL_cell_at
      refine ev_sifF (by rw [ev_fB (ev_f2 rfl (ev_call rfl (len_scr ns)) rfl) rfl]; exact congrArg okM (decide_eq_false c)) (ev_snext ?_)
      refine ev_sifT (by rw [ev_fB (ev_f2 (ev_call rfl (len_scr ns)) rfl (gEq_int _ _)) rfl]; exact congrArg okM (decide_eq_true cn)) ?_
      exact ev_sret (ev_f2 (ev_f2 (ev_f2 rfl rfl (gMulI (mul_l (by omega) (by omega)))) rfl (gMulI (mul_r (by decide) (by decide)))) (ev_f2 rfl rfl (gMulI (mul_l (by decide) (by decide)))) rfl) rfl
    · have c' : (0 : Int) < (ns.length : Int) := by omega
      have hr1 := Int.emod_nonneg k (b := (ns.length : Int)) (by omega)
      have hr2 := Int.emod_lt_of_pos k c'
      have hd1 : 0 ≤ k / (ns.length : Int) := Int.ediv_nonneg h0 (by omega)
      have hd2 : k / (ns.length : Int) ≤ k := Int.ediv_le_self _ h0
      refine ⟨ns.getD (k % (ns.length : Int)).toNat 0 / (1 + k / (ns.length : Int)) + k * k * 7919, ev_fn rfl ?_⟩
      show BL_cell_at [.dat (scr ns), .dat (.int k)] = _
      unfold BL_cell_at
      refine ev_sifF (by rw [ev_fB (ev_f2 rfl (ev_call rfl (len_scr ns)) rfl) rfl]; exact congrArg okM (decide_eq_false c)) (ev_snext ?_)
      refine ev_sifF (by rw [ev_fB (ev_f2 (ev_call rfl (len_scr ns)) rfl (gEq_int _ _)) rfl]; exact congrArg okM (decide_eq_false cn)) (ev_snext ?_)
      exact ev_ret (ev_f2 (ev_f2 (ev_f2 rfl (ev_f2 rfl (ev_call rfl (len_scr ns)) (gModP c')) (ix_lst (j := (k % (ns.length : Int)).toNat) (by omega) (hat _ (by omega)))) (ev_f2 rfl (ev_f2 rfl (ev_call rfl (len_scr ns)) (gFdivP c' (by omega))) rfl) (gFdivP (by omega) (by omega))) (ev_f2 (ev_f2 rfl rfl (gMulI (mul_l (by omega) (by omega)))) rfl (gMulI (mul_r (by decide) (by decide)))) rfl) rfl
theorem ln_loop (t b u v : Int) : ∃ x : Int, Int.gcd x 0 = Int.gcd u v ∧ 0 ≤ x ∧ fWh (fB (f2 (gEq true) (fVar 3) (fC (.int 0)))) (fPar 2 3 (fCons (fVar 3) (fCons (f2 (gI gMod) (fVar 2) (fVar 3)) fNil))) [.dat (.int t), .dat (.int b), .dat (.int (u.natAbs : Int)), .dat (.int (v.natAbs : Int))] = some (.next [.dat (.int t), .dat (.int b), .dat (.int x), .dat (.int 0)]) := by
  obtain ⟨δ', e, x, rfl, hx, h0⟩ := whN_inv (c := fB (f2 (gEq true) (fVar 3) (fC (.int 0)))) (b := fPar 2 3 (fCons (fVar 3) (fCons (f2 (gI gMod) (fVar 2) (fVar 3)) fNil))) (δ := [.dat (.int t), .dat (.int b), .dat (.int (u.natAbs : Int)), .dat (.int (v.natAbs : Int))])
    (fun δ => ∃ (x y : Int), δ = [.dat (.int t), .dat (.int b), .dat (.int x), .dat (.int y)] ∧ Int.gcd x y = Int.gcd u v ∧ 0 ≤ x ∧ 0 ≤ y)
    (fun δ => ∃ (x : Int), δ = [.dat (.int t), .dat (.int b), .dat (.int x), .dat (.int 0)] ∧ Int.gcd x 0 = Int.gcd u v ∧ 0 ≤ x)
    (fun δ => match δ with | [_, _, _, .dat (.int y)] => y.natAbs | _ => 0)
    (by
      rintro δ ⟨x, y, rfl, hg, hx, hy0⟩
      by_cases hy : y = 0
      · subst hy
        exact .inl ⟨ev_fB (ev_f2 rfl rfl (gNe_int _ _)) rfl, x, rfl, hg, hx⟩
      · refine .inr ⟨?_, _, ev_par (ecz rfl (ecz (ev_f2 rfl rfl (gModI hy)) rfl)) rfl rfl (by walk_at "ss"), ⟨y, x.fmod y, rfl, ?_, hy0, Int.fmod_nonneg hx hy0⟩, NB.fmod_lt x y hy⟩
        · have := ev_fB (δ := [.dat (.int t), .dat (.int b), .dat (.int x), .dat (.int y)]) (f := f2 (gEq true) (fVar 3) (fC (.int 0))) (ev_f2 rfl rfl (gNe_int y 0)) rfl
          rw [this, decide_eq_false hy]; rfl
        · rw [NB.gcd_fmod]; exact hg) ⟨_, _, rfl, by simp [Int.gcd], by omega, by omega⟩
  exact ⟨x, hx, h0, e⟩
theorem L_num (t b : Int) (hb : b ≠ 0) (hz : b.natAbs < 2 ^ 9000) : FL_num [.int t, .int b] = okM (.val (nD (Rat.divInt t b))) := by
  refine ev_fn rfl ?_
  show BL_num [.dat (.int t), .dat (.int b), .no, .no] = _
  unfold BL_num
  have ab : ∀ z : Int, (if z < 0 then -z else z) = (z.natAbs : Int) := fun z => by split <;> omega
  refine ev_seq (ev_par (i := 2) (j := 3) (d := .int (t.natAbs : Int)) (e := .int (b.natAbs : Int)) (ecz (x := .dat (.int (t.natAbs : Int))) (ev_call rfl ?_) (ecz (x := .dat (.int (b.natAbs : Int))) (ev_call rfl ?_) rfl)) rfl rfl (by walk_at "ss")) ?_
  · rw [← ab t]; rfl
  · rw [← ab b]; rfl
  obtain ⟨x, hx, h0, e⟩ := ln_loop t b t b
  have ex : x = (Int.gcd t b : Int) := by
    rw [← hx, Int.gcd_zero_right]; omega
  subst ex
  refine ev_seq e ?_
  have gs := gcd_small (t := t) hb hz
  have fin : ∀ d : Int, d = (if b < 0 then -(Int.gcd t b : Int) else (Int.gcd t b : Int)) → (fRet (fCall D3.gTup (fCons (f2 (gI gFdiv) (fVar 0) (fVar 2)) (fCons (f2 (gI gFdiv) (fVar 1) (fVar 2)) fNil)))) [.dat (.int t), .dat (.int b), .dat (.int d), .dat (.int 0)] = some (.ret (.val (nD (Rat.divInt t b)))) := fun d hd => by
    obtain ⟨h0, e1, e2⟩ := NB.num_low t b hb d hd
    have hs : d.natAbs < 2 ^ 9000 := by rw [hd]; split <;> omega
    refine ev_ret (ev_call (ecz (ev_f2 rfl rfl (gFdivI h0 hs)) (ecz (ev_f2 rfl rfl (gFdivI h0 hs)) rfl)) rfl) ?_
    rw [e1, e2]; rfl
  refine ev_sif (ev_fB (ev_f2 rfl rfl rfl) rfl) (fun c => ?_) (fun c => ?_)
  · have c' : b < 0 := of_decide_eq_true c
    refine ev_sset (x := .dat (.int (0 - (Int.gcd t b : Int)))) (ev_f2 rfl rfl rfl) rfl (by walk_at "ss") ?_
    exact fin _ (by rw [if_pos c']; omega)
  · have c' : ¬ b < 0 := of_decide_eq_false c
    exact ev_snext (fin _ (by rw [if_neg c']))
theorem L_plus (p q : Rat) (zp : NB.Sz 4000 p) (zq : NB.Sz 4000 q) : FL_plus [nD p, nD q] = okM (.val (nD (p + q))) := by
  refine ev_fn rfl ?_
  show BL_plus [.dat (nD p), .dat (nD q)] = _
  unfold BL_plus
  have m1 : ∀ {u v : Int}, u.natAbs < 2 ^ 4000 → v.natAbs < 2 ^ 4000 → IntMulOk u v := fun hu hv => mulOk hu hv (by decide)
  have dp : ((p.den : Nat) : Int).natAbs < 2 ^ 4000 := by rw [Int.natAbs_natCast]; exact zp.2
  have dq : ((q.den : Nat) : Int).natAbs < 2 ^ 4000 := by rw [Int.natAbs_natCast]; exact zq.2
  have nz : (p.den : Int) * (q.den : Int) ≠ 0 := by
    have h := Nat.mul_ne_zero p.den_nz q.den_nz
    intro z
    exact h (by exact_mod_cast z)
  have bz : ((p.den : Int) * (q.den : Int)).natAbs < 2 ^ 9000 := by
    rw [Int.natAbs_mul]
    exact Nat.lt_of_lt_of_le (NB.mul_lt (m := 4000) (n := 4000) dp dq) (Nat.pow_le_pow_right (by decide) (by decide))
  refine ev_ret (ev_call (ecz (ev_f2 (ev_f2 (ev_f2 rfl rfl ix_t0) (ev_f2 rfl rfl ix_t1) (gMulI (m1 zp.1 dq))) (ev_f2 (ev_f2 rfl rfl ix_t0) (ev_f2 rfl rfl ix_t1) (gMulI (m1 zq.1 dp))) rfl) (ecz (ev_f2 (ev_f2 rfl rfl ix_t1) (ev_f2 rfl rfl ix_t1) (gMulI (m1 dp dq))) rfl)) (ev_gF rfl rfl (L_num _ _ nz bz) rfl)) ?_
  rw [NB.plus_eq, outZ_num]; rfl
theorem L_times (p q : Rat) (zp : NB.Sz 4000 p) (zq : NB.Sz 4000 q) : FL_times [nD p, nD q] = okM (.val (nD (p * q))) := by
  refine ev_fn rfl ?_
  show BL_times [.dat (nD p), .dat (nD q)] = _
  unfold BL_times
  have m1 : ∀ {u v : Int}, u.natAbs < 2 ^ 4000 → v.natAbs < 2 ^ 4000 → IntMulOk u v := fun hu hv => mulOk hu hv (by decide)
  have dp : ((p.den : Nat) : Int).natAbs < 2 ^ 4000 := by rw [Int.natAbs_natCast]; exact zp.2
  have dq : ((q.den : Nat) : Int).natAbs < 2 ^ 4000 := by rw [Int.natAbs_natCast]; exact zq.2
  have nz : (p.den : Int) * (q.den : Int) ≠ 0 := by
    have h := Nat.mul_ne_zero p.den_nz q.den_nz
    intro z
    exact h (by exact_mod_cast z)
  have bz : ((p.den : Int) * (q.den : Int)).natAbs < 2 ^ 9000 := by
    rw [Int.natAbs_mul]
    exact Nat.lt_of_lt_of_le (NB.mul_lt (m := 4000) (n := 4000) dp dq) (Nat.pow_le_pow_right (by decide) (by decide))
  refine ev_ret (ev_call (ecz (ev_f2 (ev_f2 rfl rfl ix_t0) (ev_f2 rfl rfl ix_t0) (gMulI (m1 zp.1 zq.1))) (ecz (ev_f2 (ev_f2 rfl rfl ix_t1) (ev_f2 rfl rfl ix_t1) (gMulI (m1 dp dq))) rfl)) (ev_gF rfl rfl (L_num _ _ nz bz) rfl)) ?_
  rw [NB.times_eq, outZ_num]; rfl
theorem ix_at {ds : List PyData} {i : Int} {d : PyData} (h : L2.atI ds i = some d) : gIx (.var ds) (.dat (.int i)) = okM (.dat d) := by
  unfold gIx seqOf Rz.d?; dsimp only; rw [h]; rfl
theorem at_last (r : List Rat) (a : Rat) : L2.atI ((r ++ [a]).map nD) (-1) = some (nD a) := by
  unfold L2.atI L2.ixN
  have e1 : ((r ++ [a]).map nD).length = r.length + 1 := by simp
  rw [e1, if_neg (by omega), if_pos (by omega)]
  have e2 : (-1 + ((r.length + 1 : Nat) : Int)).toNat = r.length := by omega
  show ((r ++ [a]).map nD)[(-1 + ((r.length + 1 : Nat) : Int)).toNat]? = _
  rw [e2, List.map_append, List.getElem?_append_right (by simp)]
  simp
theorem cl_loop (s0 : Sl) : ∀ l : List Rat, fWh (fAnd (fB (f2 (gEq true) (fVar 1) (fCall D3.gLst fNil))) (fB (f2 (gEq false) (f2 gIx (f2 gIx (fVar 1) (fU negOf (fC (.int 1)))) (fC (.int 0))) (fC (.int 0))))) (fPop 1) [s0, .own (l.map nD)] = some (.next [s0, .own ((trim l).map nD)]) := by
  intro l
  have hne : ∀ l : List Rat, fB (f2 (gEq true) (fVar 1) (fCall D3.gLst fNil)) [s0, .own (l.map nD)] = okM (!decide (l = [])) := fun l => by
    refine ev_fB (ev_f2 rfl (ev_call rfl rfl) (gNeD (d := lD l) (e := lD []) rfl rfl (okD_lD l) (okD_lD []) ?_)) rfl
    rw [eqv_lD, Bool.not_not]
  obtain ⟨δ', e, m, rfl, hm, h0⟩ := whN_inv (c := (fAnd (fB (f2 (gEq true) (fVar 1) (fCall D3.gLst fNil))) (fB (f2 (gEq false) (f2 gIx (f2 gIx (fVar 1) (fU negOf (fC (.int 1)))) (fC (.int 0))) (fC (.int 0)))))) (b := fPop 1) (δ := [s0, .own (l.map nD)])
    (fun δ => ∃ m : List Rat, δ = [s0, .own (m.map nD)] ∧ trim m = trim l)
    (fun δ => ∃ m : List Rat, δ = [s0, .own (m.map nD)] ∧ trim m = trim l ∧ trim m = m)
    (fun δ => match δ with | [_, .own d] => d.length | _ => 0)
    (by
      rintro δ ⟨m, rfl, hm⟩
      rcases List.eq_nil_or_concat m with rfl | ⟨r, a, rfl⟩
      · exact .inl ⟨ev_andF (by rw [hne]; rfl), [], rfl, hm, rfl⟩
      · rw [List.concat_eq_append] at hm ⊢
        have hlast : L2.atI ((r ++ [a]).map nD) (-1) = some (nD a) := by
          exact at_last r a
        have hsec : fB (f2 (gEq false) (f2 gIx (f2 gIx (fVar 1) (fU negOf (fC (.int 1)))) (fC (.int 0))) (fC (.int 0))) [s0, .own ((r ++ [a]).map nD)] = okM (decide (a.num = 0)) := by
          refine ev_fB (ev_f2 (ev_f2 (x := .dat (nD a)) (ev_f2 rfl rfl ?_) rfl ix_t0) rfl (gEq_int _ _)) rfl
          show gIx (.var ((r ++ [a]).map nD)) (.dat (.int (-1))) = _
          exact ix_at hlast
        have hfst : fB (f2 (gEq true) (fVar 1) (fCall D3.gLst fNil)) [s0, .own ((r ++ [a]).map nD)] = okM true := by
          rw [hne, decide_eq_false (by simp)]; rfl
        by_cases ha : a = 0
        · subst ha
          refine .inr ⟨ev_andT hfst (by rw [hsec]; rfl), _, ev_pop rfl (by simp) rfl, ⟨r, ?_, ?_⟩, ?_⟩
          · simp [List.map_append, List.dropLast_concat]
          · rw [trim_snoc0] at hm; exact hm
          · simp [List.dropLast_concat]
        · refine .inl ⟨ev_andT hfst (by rw [hsec]; exact congrArg okM (decide_eq_false fun z => ha (Rat.num_eq_zero.mp z))), r ++ [a], rfl, hm, trim_snoc ha⟩) ⟨l, rfl, rfl⟩
  rw [e, ← hm, h0]
theorem L_clean (l : List Rat) : FL_clean [lD l] = okM (.val (cD (trim l))) := by
  refine ev_fn rfl ?_
  show BL_clean [.dat (lD l), .no] = _
  unfold BL_clean
  refine ev_sset (x := .new (l.map nD)) (ev_call rfl rfl) rfl (by walk_at "ss") ?_
  exact ev_seq (cl_loop _ l) (ev_ret (ev_call rfl rfl) rfl)
theorem evz {δ : List Sl} {f : List Sl → M Rz} {x : Rz} (h : f δ = okM x) : fFz f δ = okM (fzOf x) := by unfold fFz; rw [h]; rfl
theorem lc_any {α : Type} (mk g : α → PyData) (fe : List Sl → M Rz) (δ : List Sl) : ∀ (l : List α), (∀ p ∈ l, ∃ z, fe (.dat (mk p) :: δ) = okM z ∧ datOf z = some (g p)) → lcN fTrue fe δ (l.map mk) = some (l.map g)
  | [], _ => rfl
  | p :: r, h => by
    obtain ⟨z, e, hz⟩ := h p (List.mem_cons_self ..)
    have h3 := lc_any mk g fe δ r fun d hd => h d (List.mem_cons_of_mem _ hd)
    rw [List.map_cons]
    unfold lcN
    show (match fe (.dat (mk p) :: δ) with | some (.ok z) => (match datOf z, lcN fTrue fe δ (r.map mk) with | some e, some es => some (e :: es) | _, _ => none) | _ => none) = _
    rw [e]
    show (match datOf z, lcN fTrue fe δ (r.map mk) with | some e, some es => some (e :: es) | _, _ => none) = _
    rw [hz, h3]; rfl
def pad (M : Nat) (l : List Rat) : List Rat := l ++ List.replicate (M - l.length) 0
theorem pad_at {M : Nat} {l : List Rat} {i : Nat} (hl : l.length ≤ M) (hi : i < M) : (pad M l)[i]? = some (l.getD i 0) := by
  unfold pad
  by_cases c : i < l.length
  · rw [List.getElem?_append_left c, List.getElem?_eq_getElem c, List.getD_eq_getElem?_getD, List.getElem?_eq_getElem c]; rfl
  · rw [List.getElem?_append_right (by omega), List.getElem?_replicate, if_pos (by omega), List.getD_eq_getElem?_getD, List.getElem?_eq_none (by omega)]; rfl
theorem L_sum (l m : List Rat) (zl : ∀ v ∈ l, NB.Sz 1900 v) (zm : ∀ v ∈ m, NB.Sz 1900 v) (hl : l.length ≤ 1000) (hm : m.length ≤ 1000) : FL_sum [cD l, cD m] = okM (.val (cD (trim (addP 1 l m)))) := by
  refine ev_fn rfl ?_
  show BL_sum [.dat (cD l), .dat (cD m), .no, .no] = _
  unfold BL_sum
  have sl : (sizeLine : Nat) = 16777216 := rfl
  obtain ⟨M, hM⟩ : ∃ M : Nat, M = max l.length m.length := ⟨_, rfl⟩
  refine ev_sset (x := .dat (.int (M : Int))) (ev_call (ecz (ev_call rfl (len_cD l)) (ecz (ev_call rfl (len_cD m)) rfl)) (?_ : g2 (gI gMax) [.dat (.int (l.length : Int)), .dat (.int (m.length : Int))] = okM (.dat (.int (M : Int))))) rfl (by walk_at "ss") ?_
  · show okM (Rz.dat (PyData.int (if (m.length : Int) > (l.length : Int) then (m.length : Int) else (l.length : Int)))) = _
    congr 4
    split <;> omega
  have h1 : (fLC (fI itemsL (fCall D3.gLst (fCons (fVar 0) (fCons (fVar 1) fNil)))) fTrue (fFz (f2 gCat (fCall (g1 D3.listOf) (fCons (fVar 0) fNil)) (f2 gRep (fCall D3.gLst (fCons (fCall D3.gTup (fCons (fC (.int 0)) (fCons (fC (.int 1)) fNil))) fNil)) (f2 (gI D3.gSub) (fVar 3) (fCall (g1 lenOf) (fCons (fVar 0) fNil))))))) [.dat (cD l), .dat (cD m), .dat (.int (M : Int)), .no] = okM (.new [lD (pad M l), lD (pad M m)]) := by
    unfold fLC
    rw [ev_fI (items := [l, m].map cD) (ev_call rfl rfl) rfl, bnd_okM, if_pos (by rw [List.length_map]; show (2 : Nat) < _; omega), lc_any cD (fun p => lD (pad M p)) _ _ [l, m] ?_]
    · rfl
    intro p hp
    have hp2 : p.length ≤ M := by
      rcases List.mem_cons.mp hp with rfl | hp
      · omega
      · rcases List.mem_cons.mp hp with rfl | hp
        · omega
        · cases hp
    refine ⟨.dat (lD (pad M p)), evz (x := .new ((pad M p).map nD)) (ev_f2 (x := .new (p.map nD)) (y := .new ((List.replicate (M - p.length) (0 : Rat)).map nD)) (ev_call rfl rfl) (ev_f2 (ev_call rfl rfl) (ev_f2 rfl (ev_call rfl (len_cD p)) rfl) ?_) ?_), rfl⟩
    · have : (M : Int) - (p.length : Int) = ((M - p.length : Nat) : Int) := by omega
      rw [this]; exact rep_nD _ (by omega)
    · unfold gCat ownOf
      dsimp only
      rw [if_pos (by simp; omega), ← List.map_append]; rfl
  refine ev_sset h1 rfl (by walk_at "ss") ?_
  have hLC : (fLC (fR rng1 (fCons (fVar 2) fNil)) fTrue (fCall (gF 2 FL_plus) (fCons (f2 gIx (f2 gIx (fVar 4) (fC (.int 0))) (fVar 0)) (fCons (f2 gIx (f2 gIx (fVar 4) (fC (.int 1))) (fVar 0)) fNil)))) [.dat (cD l), .dat (cD m), .dat (.int (M : Int)), .own [lD (pad M l), lD (pad M m)]] = okM (.new ((addP 1 l m).map nD)) := by
    unfold fLC
    rw [ev_rng1 (m := M) (ecz rfl rfl) (by omega) (by omega) (by omega), bnd_okM, if_pos (by rw [range_len]; omega), lc_list _ _ (rangeL 0 M) (addP 1 l m) (by rw [range_len, addP_len, hM]) ?_]
    intro i d q hi hq
    obtain ⟨hi1, rfl⟩ := range_at hi
    rw [addP_get 1 l m i (by omega)] at hq
    cases hq
    have e0 : (0 : Int) + (i : Int) = (i : Int) := by omega
    rw [e0, Rat.one_mul]
    exact ev_call (ecz (ev_f2 (ev_f2 rfl rfl (ix_var (j := 0) rfl rfl)) rfl (ix_lst (j := i) rfl (get_nD (pad_at (by omega) hi1)))) (ecz (ev_f2 (ev_f2 rfl rfl (ix_var (j := 1) rfl rfl)) rfl (ix_lst (j := i) rfl (get_nD (pad_at (by omega) hi1)))) rfl)) (ev_gF rfl rfl (L_plus _ _ ((szD zl i).mono (by decide)) ((szD zm i).mono (by decide))) (outZ_num _))
  exact ev_ret (ev_call (ecz hLC rfl) (ev_gF (ds := [lD (addP 1 l m)]) rfl rfl (L_clean _) (outZ_cur _))) rfl
theorem lm_turn (q b F : List Rat) (j k : Nat) (u a c : Rat) (hu : F[j + k]? = some u) (ha : q[j]? = some a) (hc : b[k]? = some c) (zu : NB.Sz 2500 u) (za : NB.Sz 600 a) (zc : NB.Sz 600 c) :
    ZZ3 [.dat (cD q), .dat (cD b), .own ((F).map nD), .dat (.int (j : Int)), .dat (.int (0 + (k : Int)))] = some (.next [.dat (cD q), .dat (cD b), .own ((F.set (j + k) (u + a * c)).map nD), .dat (.int (j : Int)), .dat (.int (0 + (k : Int)))]) := by
  have e0 : (0 : Int) + (k : Int) = (k : Int) := by omega
  have ej : (j : Int) + (0 + (k : Int)) = ((j + k : Nat) : Int) := by omega
  have hlt : j + k < F.length := by
    by_cases h : j + k < F.length
    · exact h
    · rw [List.getElem?_eq_none (by omega)] at hu; cases hu
  refine ev_put (x := .dat (nD (u + a * c))) (j := j + k) (ev_call (ecz (ev_f2 rfl (ev_f2 rfl rfl rfl) (ix_var (j := j + k) ej (get_nD hu))) (ecz (ev_call (ecz (ev_f2 rfl rfl (ix_tup (j := j) rfl (get_nD ha))) (ecz (ev_f2 rfl rfl (ix_tup (j := k) e0 (get_nD hc))) rfl)) (ev_gF rfl rfl (L_times a c (za.mono (by decide)) (zc.mono (by decide))) (outZ_num _))) rfl)) (ev_gF rfl rfl (L_plus u (a * c) (zu.mono (by decide)) ((za.mul zc).mono (by decide))) (outZ_num _))) rfl (ev_f2 rfl rfl rfl) rfl rfl (ixN_nat ej (by rw [List.length_map]; exact hlt)) ?_
  rw [List.map_set]; rfl
theorem lm_in (q b F : List Rat) (j : Nat) (a : Rat) (ha : q[j]? = some a) (hj : j + b.length ≤ F.length) (hb : b.length ≤ 1000) (Pd Pe : Rat → Prop) (hm : ∀ v, Pd v → Pe v) (hs : ∀ v, Pd v → ∀ c ∈ b, Pe (v + a * c)) (hz : ∀ v, Pd v → NB.Sz 2500 v) (za : NB.Sz 600 a) (zb : ∀ c ∈ b, NB.Sz 600 c) (hP : ∀ v ∈ F, Pd v) (r4 : Sl) :
    ∃ (F' : List Rat) (s4 : Sl), (fFor (fR rng1 (fCons (fCall (g1 lenOf) (fCons (fVar 1) fNil)) fNil)) (tName 4) ZZ3) [.dat (cD q), .dat (cD b), .own ((F).map nD), .dat (.int (j : Int)), r4] = some (.next [.dat (cD q), .dat (cD b), .own ((F').map nD), .dat (.int (j : Int)), s4]) ∧ F'.length = F.length ∧ (∀ x, ev F' x = ev F x + a * x ^ j * ev b x) ∧ (∀ v ∈ F', Pe v) := by
  obtain ⟨δ', e, F', s4, rfl, e1, e2, e3, e4⟩ := forN_inv (g := tName 4) (b := ZZ3) (δ := [.dat (cD q), .dat (cD b), .own ((F).map nD), .dat (.int (j : Int)), r4])
    (fun k δ => ∃ (F' : List Rat) (s4 : Sl), δ = [.dat (cD q), .dat (cD b), .own ((F').map nD), .dat (.int (j : Int)), s4] ∧ F'.length = F.length ∧ (∀ x, ev F' x = ev F x + a * x ^ j * ev (b.take k) x) ∧ (∀ v ∈ F', Pe v) ∧ (∀ i, j + k ≤ i → F'[i]? = F[i]?))
    (rangeL 0 b.length) ⟨F, r4, rfl, rfl, fun x => by rw [List.take_zero]; simp only [ev]; grind, fun v hv => hm v (hP v hv), fun i _ => rfl⟩
    (by
      rintro k d δ hd ⟨G, s4, rfl, h1, h2, h3, h4⟩
      obtain ⟨hk, rfl⟩ := range_at hd
      obtain ⟨u, hu⟩ := getE (l := F) (j := j + k) (by omega)
      obtain ⟨c, hc⟩ := getE (l := b) (j := k) hk
      have hGu : G[j + k]? = some u := by rw [h4 _ (Nat.le_refl _), hu]
      have pu := hP u (List.mem_of_getElem? hu)
      have cm := List.mem_of_getElem? hc
      refine ⟨_, _, rfl, .inl (lm_turn q b G j k u a c hGu ha hc (hz u pu) za (zb c cm)), G.set (j + k) (u + a * c), _, rfl, by rw [List.length_set, h1], fun x => ?_, fun w hw => ?_, fun i hi => ?_⟩
      · rw [evSet G (j + k) _ u x hGu, h2, ev_take b k c x hc, rpow_add]; grind
      · rcases List.mem_or_eq_of_mem_set hw with hw | rfl
        · exact h3 w hw
        · exact hs u pu c cm
      · rw [List.getElem?_set_ne (by omega)]; exact h4 i (by omega))
  rw [range_len, List.take_length] at e2
  exact ⟨F', s4, ev_for (ev_rng1 (m := b.length) (ecz (ev_call rfl (len_cD b)) rfl) (by omega) (by omega) (by omega)) e, e1, e2, e3⟩
theorem L_product (q b : List Rat) (Pd : Nat → Rat → Prop) (h0 : Pd 0 0) (hm : ∀ j v, Pd j v → Pd (j + 1) v) (hs : ∀ j v, Pd j v → ∀ a ∈ q, ∀ c ∈ b, Pd (j + 1) (v + a * c)) (hz : ∀ j v, j ≤ q.length → Pd j v → NB.Sz 2500 v)
    (zq : ∀ a ∈ q, NB.Sz 600 a) (zb : ∀ c ∈ b, NB.Sz 600 c) (hq : q.length ≤ 30) (hb : b.length ≤ 30) (q0 : q ≠ []) (b0 : b ≠ []) :
    ∃ F : List Rat, F.length = q.length + b.length - 1 ∧ (∀ x, ev F x = ev q x * ev b x) ∧ (∀ v ∈ F, Pd q.length v) ∧ FL_product [cD q, cD b] = okM (.val (cD (trim F))) := by
  have q1 : 0 < q.length := List.length_pos_iff.mpr q0
  have b1 : 0 < b.length := List.length_pos_iff.mpr b0
  obtain ⟨n, hn⟩ : ∃ n : Nat, n = q.length + b.length - 1 := ⟨_, rfl⟩
  obtain ⟨δ2, f, F, s3, s4, rfl, c1, c2, c3⟩ := forN_inv (g := tName 3) (b := (fFor (fR rng1 (fCons (fCall (g1 lenOf) (fCons (fVar 1) fNil)) fNil)) (tName 4) ZZ3)) (δ := [.dat (cD q), .dat (cD b), .own ((List.replicate n 0).map nD), .no, .no])
    (fun i δ => ∃ (F : List Rat) (s3 s4 : Sl), δ = [.dat (cD q), .dat (cD b), .own ((F).map nD), s3, s4] ∧ F.length = n ∧ (∀ x, ev F x = ev (q.take i) x * ev b x) ∧ (∀ v ∈ F, Pd i v))
    (rangeL 0 q.length) ⟨List.replicate n 0, .no, .no, rfl, by simp, fun x => by rw [ev_zeros, List.take_zero]; simp only [ev]; grind, fun v hv => by rw [List.eq_of_mem_replicate hv]; exact h0⟩
    (by
      rintro j d δ hd ⟨F, s3, s4, rfl, h1, h2, h3⟩
      obtain ⟨hj, rfl⟩ := range_at hd
      obtain ⟨a, ha⟩ := getE (l := q) (j := j) hj
      have am := List.mem_of_getElem? ha
      obtain ⟨F', t4, e, c1, c2, c3⟩ := lm_in q b F j a ha (by omega) (by omega) (Pd j) (Pd (j + 1)) (hm j) (fun v pv c hc => hs j v pv a am c hc) (fun v pv => hz j v (by omega) pv) (zq a am) zb h3 s4
      have e0 : (0 : Int) + (j : Int) = (j : Int) := by omega
      rw [e0]
      refine ⟨_, _, rfl, .inl e, F', _, _, rfl, by omega, fun x => ?_, c3⟩
      rw [c2, h2, ev_take q j a x ha]; grind)
  rw [range_len] at c3
  rw [range_len, List.take_length] at c2
  refine ⟨F, by omega, c2, c3, ev_fn rfl ?_⟩
  show BL_product [.dat (cD q), .dat (cD b), .no, .no, .no] = _
  unfold BL_product
  refine ev_sset (x := .new ((List.replicate n (0 : Rat)).map nD)) (ev_f2 (y := .dat (.int (n : Int))) (ev_call rfl rfl) (ev_call (ecz rfl (ecz (ev_f2 (ev_f2 (ev_call rfl (len_cD q)) (ev_call rfl (len_cD b)) rfl) rfl rfl) rfl)) ?_) (rep_nD n (by omega))) rfl (by walk_at "ss") (ev_seq (ev_for (ev_rng1 (m := q.length) (ecz (ev_call rfl (len_cD q)) rfl) (by omega) (by omega) (by omega)) f) (ev_ret (ev_call rfl (ev_gF (ds := [lD F]) rfl rfl (L_clean F) (outZ_cur _))) rfl))
  show okM (Rz.dat (PyData.int (if (q.length : Int) + (b.length : Int) - 1 > 0 then (q.length : Int) + (b.length : Int) - 1 else 0))) = _
  congr 4
  split <;> omega
theorem Gz.add {D : Int} {m n k : Nat} {p q : Rat} (hp : Gz D m p) (hq : Gz D n q) (h1 : m < k) (h2 : n < k) : Gz D k (p + q) := by
  obtain ⟨t, e1, b1⟩ := hp
  obtain ⟨s, e2, b2⟩ := hq
  refine ⟨t + s, by rw [Rat.intCast_add]; grind, ?_⟩
  have h0 := Int.natAbs_add_le t s
  have h3 : 2 ^ m ≤ 2 ^ (k - 1) := Nat.pow_le_pow_right (by decide) (by omega)
  have h4 : 2 ^ n ≤ 2 ^ (k - 1) := Nat.pow_le_pow_right (by decide) (by omega)
  have h5 : 2 ^ k = 2 ^ (k - 1) * 2 := by rw [← Nat.pow_succ]; congr 1; omega
  omega
theorem Gz.mulG {D E : Int} {m n : Nat} {p q : Rat} (hp : Gz D m p) (hq : Gz E n q) : Gz (D * E) (m + n) (p * q) := by
  obtain ⟨t, e1, b1⟩ := hp
  obtain ⟨s, e2, b2⟩ := hq
  refine ⟨t * s, by rw [Rat.intCast_mul, Rat.intCast_mul]; grind, ?_⟩
  rw [Int.natAbs_mul, Nat.pow_add]
  exact Nat.mul_lt_mul'' b1 b2
theorem Gz.up {D : Int} (E : Int) {n e : Nat} {q : Rat} (h : Gz D n q) (hE : E.natAbs < 2 ^ e) : Gz (D * E) (n + e) q := by
  have := h.mulG (E := E) (n := e) (q := 1) ⟨E, by rw [Rat.one_mul], hE⟩
  rwa [Rat.mul_one] at this
theorem Gz.stepE {D Q u : Int} {n e : Nat} {c p q : Rat} (hc : c * (Q : Rat) = (u : Rat)) (hb : Q.natAbs + u.natAbs ≤ 2 ^ e) (hp : Gz D n p) (hq : Gz D n q) : Gz (D * Q) (n + e) (p - c * q) := by
  obtain ⟨t, e1, b1⟩ := hp
  obtain ⟨s, e2, b2⟩ := hq
  refine ⟨t * Q - u * s, ?_, ?_⟩
  · rw [Rat.intCast_mul, Rat.intCast_sub, Rat.intCast_mul, Rat.intCast_mul]; grind
  · have h1 : (t * Q - u * s).natAbs ≤ t.natAbs * Q.natAbs + u.natAbs * s.natAbs := by
      have := Int.natAbs_sub_le (t * Q) (u * s)
      rwa [Int.natAbs_mul, Int.natAbs_mul] at this
    have h2 : t.natAbs * Q.natAbs ≤ (2 ^ n - 1) * Q.natAbs := Nat.mul_le_mul_right _ (by omega)
    have h3 : u.natAbs * s.natAbs ≤ u.natAbs * (2 ^ n - 1) := Nat.mul_le_mul_left _ (by omega)
    rw [Nat.mul_comm u.natAbs (2 ^ n - 1)] at h3
    have h4 : (2 ^ n - 1) * Q.natAbs + (2 ^ n - 1) * u.natAbs ≤ (2 ^ n - 1) * 2 ^ e := by rw [← Nat.mul_add]; exact Nat.mul_le_mul_left _ hb
    have h6 : 0 < 2 ^ n := Nat.pow_pos (by decide)
    have h7 : 0 < 2 ^ e := Nat.pow_pos (by decide)
    rw [Nat.pow_add]
    have h8 : (2 ^ n - 1) * 2 ^ e < 2 ^ n * 2 ^ e := Nat.mul_lt_mul_of_pos_right (by omega) h7
    omega
theorem gzD {D : Int} {n : Nat} {l : List Rat} (h : ∀ v ∈ l, Gz D n v) (i : Nat) : Gz D n (l.getD i 0) := by
  rw [List.getD_eq_getElem?_getD]
  cases e : l[i]? with
  | none => exact Gz.zero _ _
  | some v => exact h v (List.mem_of_getElem? e)
theorem add_gz {D : Int} {m n k : Nat} {l r : List Rat} (hl : ∀ v ∈ l, Gz D m v) (hr : ∀ v ∈ r, Gz D n v) (h1 : m < k) (h2 : n < k) : ∀ v ∈ addP 1 l r, Gz D k v := by
  intro v hv
  obtain ⟨i, hi⟩ := List.getElem?_of_mem hv
  have hlt : i < max l.length r.length := by
    rw [← addP_len 1]
    by_cases c : i < (addP 1 l r).length
    · exact c
    · rw [List.getElem?_eq_none (by omega)] at hi; cases hi
  rw [addP_get 1 l r i hlt, Rat.one_mul] at hi
  cases hi
  exact (gzD hl i).add (gzD hr i) h1 h2
def pwl (a h : Rat) : Nat → List Rat
  | 0 => [a]
  | m + 1 => addP (-h) (0 :: pwl a h m) (pwl a h m)
theorem pwl_len (a h : Rat) : ∀ m, (pwl a h m).length = m + 1
  | 0 => rfl
  | m + 1 => by rw [pwl, addP_len, List.length_cons, pwl_len a h m]; omega
theorem pwl_ev (a h x : Rat) : ∀ m, ev (pwl a h m) x = a * (x - h) ^ m
  | 0 => by simp only [pwl, ev, Rat.pow_zero]; grind
  | m + 1 => by
    rw [pwl, addP_ev, Rat.pow_succ]
    simp only [ev]
    rw [pwl_ev a h x m]; grind
theorem pwl_gz {E Q u : Int} {n e : Nat} {a h : Rat} (hu : h * (Q : Rat) = (u : Rat)) (hb : Q.natAbs + u.natAbs ≤ 2 ^ e) (ha : Gz E n a) : ∀ m, ∀ v ∈ pwl a h m, Gz (E * Q ^ m) (n + e * m) v
  | 0 => fun v hv => by
    rw [pwl, List.mem_singleton] at hv
    subst hv
    rw [Int.pow_zero, Int.mul_one]; exact ha
  | m + 1 => fun v hv => by
    have ih := pwl_gz hu hb ha m
    rw [pwl] at hv
    obtain ⟨i, hi⟩ := List.getElem?_of_mem hv
    have hlt : i < max (0 :: pwl a h m).length (pwl a h m).length := by
      rw [← addP_len (-h)]
      by_cases c : i < (addP (-h) (0 :: pwl a h m) (pwl a h m)).length
      · exact c
      · rw [List.getElem?_eq_none (by omega)] at hi; cases hi
    rw [addP_get _ _ _ i hlt] at hi
    cases hi
    have e1 : (0 :: pwl a h m).getD i 0 + -h * (pwl a h m).getD i 0 = (0 :: pwl a h m).getD i 0 - h * (pwl a h m).getD i 0 := by grind
    rw [e1, Int.pow_succ, ← Int.mul_assoc, Nat.mul_succ, ← Nat.add_assoc]
    refine Gz.stepE hu hb (gzD (fun w hw => ?_) i) (gzD ih i)
    rcases List.mem_cons.mp hw with rfl | hw
    · exact Gz.zero _ _
    · exact ih w hw
theorem dev_pw (b h : Rat) : ∀ (n : Nat) (L : List Rat), (∀ x, ev L x = b * (x - h) ^ (n + 1)) → ∀ x, dev L x = b * ((n + 1 : Nat) : Rat) * (x - h) ^ n := by
  intro n
  induction n with
  | zero =>
    intro L hL x
    have h1 : ∀ x, ev L x = ev (pwl b h 0) x * ev [-h, 1] x := fun x => by
      rw [hL, pwl_ev]; simp only [ev]; grind
    rw [dev_mul h1]
    simp only [pwl, dev, ev]
    have : (((0 + 1 : Nat)) : Rat) = 1 := rfl
    rw [this, Rat.pow_zero]; grind
  | succ n ih =>
    intro L hL x
    have h1 : ∀ x, ev L x = ev (pwl b h (n + 1)) x * ev [-h, 1] x := fun x => by
      rw [hL, pwl_ev, Rat.pow_succ _ (n + 1)]; simp only [ev]; grind
    rw [dev_mul h1, ih (pwl b h (n + 1)) (fun x => pwl_ev b h x (n + 1)), pwl_ev]
    simp only [dev, ev]
    have e1 : (((n + 1 + 1 : Nat)) : Rat) = ((n + 1 : Nat) : Rat) + 1 := by exact_mod_cast rfl
    rw [e1, Rat.pow_succ]
    grind
theorem sl_sz {n : Nat} {l : List Rat} (hl : l.length ≤ 7) (h : ∀ v ∈ l, NB.Sz n v) : ∀ v ∈ sl l, NB.Sz (n + 3) v := by
  intro v hv
  obtain ⟨i, hi⟩ := List.getElem?_of_mem hv
  have hlt : i < l.length - 1 := by
    rw [← sl_len]
    by_cases c : i < (sl l).length
    · exact c
    · rw [List.getElem?_eq_none (by omega)] at hi; cases hi
  have hg : l.tail[i]? = some (l[i + 1]'(by omega)) := by
    rw [List.getElem?_tail, List.getElem?_eq_getElem (by omega)]
  unfold sl at hi
  rw [slF_get 1 l.tail i _ hg] at hi
  cases hi
  have hz : NB.Sz 3 (((1 + i : Nat)) : Rat) := by
    have : 1 + i ≤ 7 := by omega
    constructor
    · show ((((1 + i : Nat)) : Rat)).num.natAbs < 2 ^ 3
      rw [Rat.num_natCast]; omega
    · show ((((1 + i : Nat)) : Rat)).den < 2 ^ 3
      rw [Rat.den_natCast]; decide
  exact (h _ (List.getElem_mem _)).mul hz
def Jn (E : Int) (e : Nat) (l : List Rat) (h : Rat) (l' : List Rat) (s : PyData) : Prop := (s = .none ∧ l' = l) ∨ ∃ (m : Nat) (a : Rat), a ≠ 0 ∧ m ≤ 6 ∧ Gz E e a ∧ s = .int ((m : Int) - 1) ∧ ∀ x, ev l' x = ev l x + a * (x - h) ^ m
theorem pw_zero {r : Rat} (n : Nat) (h : r = 0) : r ^ (n + 1) = 0 := by rw [Rat.pow_succ, h, Rat.mul_zero]
theorem one_pw (m : Nat) : (1 : Rat) ^ m = 1 := by
  induction m with
  | zero => rw [Rat.pow_zero]
  | succ m ih => rw [Rat.pow_succ, ih, Rat.mul_one]
theorem sm_loop (l l' : List Rat) (h : Rat) (m : Nat) (hm : m ≤ 6) (zh : NB.Sz 14 h) (L0 : List Rat) (b0 : Rat) (hb0 : b0 ≠ 0) (e0 : ∀ x, ev L0 x = b0 * (x - h) ^ m) (z0 : ∀ v ∈ L0, NB.Sz 160 v) (n0 : L0.length ≤ 7) :
    ∃ L : List Rat, fWh (fB (f2 (gEq false) (fCall (gF 1 F_sign) (fCons (fCall (gF 2 F_worth) (fCons (fVar 3) (fCons (fVar 2) fNil))) fNil)) (fC (.int 0)))) ZZ8 [.dat (cD l), .dat (cD l'), .dat (nD h), .dat (cD L0), .dat (.int (-1))] = some (.next [.dat (cD l), .dat (cD l'), .dat (nD h), .dat (cD L), .dat (.int ((m : Int) - 1))]) := by
  obtain ⟨δ', e, L, rfl⟩ := whN_inv (c := fB (f2 (gEq false) (fCall (gF 1 F_sign) (fCons (fCall (gF 2 F_worth) (fCons (fVar 3) (fCons (fVar 2) fNil))) fNil)) (fC (.int 0)))) (b := ZZ8) (δ := [.dat (cD l), .dat (cD l'), .dat (nD h), .dat (cD L0), .dat (.int (-1))])
    (fun δ => ∃ (i : Nat) (L : List Rat) (b : Rat), i ≤ m ∧ b ≠ 0 ∧ (∀ x, ev L x = b * (x - h) ^ (m - i)) ∧ (∀ v ∈ L, NB.Sz (160 + 3 * i) v) ∧ L.length ≤ 7 ∧ δ = [.dat (cD l), .dat (cD l'), .dat (nD h), .dat (cD L), .dat (.int ((i : Int) - 1))])
    (fun δ => ∃ L : List Rat, δ = [.dat (cD l), .dat (cD l'), .dat (nD h), .dat (cD L), .dat (.int ((m : Int) - 1))])
    (fun δ => match δ with | [_, _, _, _, .dat (.int f)] => ((m : Int) - f).toNat | _ => 0)
    (by
      rintro δ ⟨i, L, b, hi, hb, he, hz, hn, rfl⟩
      have hw := P_worth (160 + 3 * i) 14 L h zh hz (by have := Nat.mul_le_mul_right (160 + 3 * i + 14 + 1) hn; omega) (by omega)
      have hc : fB (f2 (gEq false) (fCall (gF 1 F_sign) (fCons (fCall (gF 2 F_worth) (fCons (fVar 3) (fCons (fVar 2) fNil))) fNil)) (fC (.int 0))) [.dat (cD l), .dat (cD l'), .dat (nD h), .dat (cD L), .dat (.int ((i : Int) - 1))] = okM (decide (ev L h = 0)) := by
        rw [← sign_zero]
        exact ev_fB (ev_f2 (ev_call (ecz (ev_call (ecz rfl (ecz rfl rfl)) (ev_gF rfl rfl hw (outZ_num _))) rfl) (ev_gF rfl rfl (P_sign _) rfl)) rfl (gEq_int _ _)) rfl
      have x0 : h - h = 0 := by grind
      by_cases c : i = m
      · subst c
        refine .inl ⟨?_, L, rfl⟩
        rw [hc, he, Nat.sub_self, Rat.pow_zero, Rat.mul_one, decide_eq_false hb]
      · obtain ⟨n, hn2⟩ : ∃ n, m - i = n + 1 := ⟨m - i - 1, by omega⟩
        refine .inr ⟨?_, _, ev_sset (ev_f2 rfl rfl rfl) rfl (by walk_at "ss") (ev_set (x := .dat (cD (sl L))) (ev_call rfl (ev_gF rfl rfl (P_slope L (fun v hv => (hz v hv).mono (by omega)) (by omega)) (outZ_cur _))) rfl rfl), ⟨i + 1, sl L, b * ((n + 1 : Nat) : Rat), by omega, ?_, fun x => ?_, fun v hv => ?_, by rw [sl_len]; omega, ?_⟩, ?_⟩
        · rw [hc, he, hn2, pw_zero n x0, Rat.mul_zero]; rfl
        · intro z
          rcases Rat.mul_eq_zero.mp z with z | z
          · exact hb z
          · have : ((n + 1 : Nat) : Rat) ≠ 0 := by exact_mod_cast Nat.succ_ne_zero n
            exact this z
        · have e3 : m - (i + 1) = n := by omega
          rw [sl_ev, e3]
          exact dev_pw b h n L (fun x => by rw [he, hn2]) x
        · have := sl_sz hn hz v hv
          exact this.mono (by omega)
        · have : (i : Int) - 1 + 1 = ((i + 1 : Nat) : Int) - 1 := by omega
          rw [← this]; rfl
        · show ((m : Int) - ((i : Int) - 1 + 1)).toNat < ((m : Int) - ((i : Int) - 1)).toNat
          omega) ⟨0, L0, b0, by omega, hb0, by simpa using e0, by simpa using z0, n0, rfl⟩
  exact ⟨L, e⟩
theorem P_smooth_at (E Q u : Int) (e : Nat) (l l' : List Rat) (h : Rat) (s : PyData) (zl : ∀ v ∈ l, NB.Sz 1900 v) (zl' : ∀ v ∈ l', NB.Sz 1900 v) (hl : l.length ≤ 13) (hl' : l'.length ≤ 13) (hE : E ≠ 0) (bE : E.natAbs < 2 ^ e) (he : e ≤ 80) (hQ : Q ≠ 0) (hu : h * (Q : Rat) = (u : Rat)) (hb : Q.natAbs + u.natAbs ≤ 2 ^ 13) (J : Jn E e l h l' s) : F_smooth_at [cD l, cD l', nD h] = okM (.val s) := by
  refine ev_fn rfl ?_
  show B_smooth_at [.dat (cD l), .dat (cD l'), .dat (nD h), .no, .no] = _
  unfold B_smooth_at
  have len13 : (trim (addP (-1) l l')).length ≤ 13 := by
    have := trim_len (addP (-1) l l')
    rw [addP_len] at this
    omega
  refine ev_sset (ev_call (ecz rfl (ecz rfl rfl)) (ev_gF rfl rfl (P_taken l l' zl zl' (by omega) (by omega) len13) (outZ_cur _))) rfl (by walk_at "ss") ?_
  have hif : ∀ r : Sl, fB (f2 (gEq false) (fCall (g1 lenOf) (fCons (fVar 3) fNil)) (fC (.int 0))) [.dat (cD l), .dat (cD l'), .dat (nD h), .dat (cD (trim (addP (-1) l l'))), r] = okM (decide (((trim (addP (-1) l l')).length : Int) = 0)) := fun r => ev_fB (ev_f2 (ev_call rfl (len_cD _)) rfl (gEq_int _ _)) rfl
  rcases J with ⟨rfl, rfl⟩ | ⟨m, a, ha, hm, ga, rfl, hev⟩
  · have : trim (addP (-1) l' l') = [] := by
      have := trim_inj (l := addP (-1) l' l') (m := []) fun x => by rw [addP_ev]; simp only [ev]; grind
      rw [this]; rfl
    refine ev_sifT (by rw [hif, this]; rfl) ?_
    exact ev_sret rfl rfl
  · have ht : trim (addP (-1) l l') = trim (pwl (-a) h m) := trim_inj fun x => by rw [addP_ev, pwl_ev, hev]; grind
    have ga' : Gz E e (-a) := by
      obtain ⟨t, e1, b1⟩ := ga
      exact ⟨-t, by rw [Rat.intCast_neg]; grind, by omega⟩
    have hp := pwl_gz (e := 13) hu hb ga' m
    have hQ13 : Q.natAbs ≤ 2 ^ 13 := by omega
    have hD : (E * Q ^ m).natAbs < 2 ^ (e + 13 * m) := by
      rw [Int.natAbs_mul, Int.natAbs_pow, Nat.pow_add, Nat.pow_mul]
      have h1 : Q.natAbs ^ m ≤ (2 ^ 13) ^ m := Nat.pow_le_pow_left hQ13 m
      have h2 : 0 < (2 ^ 13) ^ m := Nat.pow_pos (by decide)
      exact Nat.lt_of_le_of_lt (Nat.mul_le_mul_left _ h1) (Nat.mul_lt_mul_of_pos_right bE h2)
    have hz : ∀ v ∈ trim (pwl (-a) h m), NB.Sz 160 v := fun v hv => ((hp v (trim_mem hv)).sz (Int.mul_ne_zero hE (Int.pow_ne_zero hQ)) hD).mono (by omega)
    have hn : (trim (pwl (-a) h m)).length ≤ 7 := by
      have := trim_len (pwl (-a) h m)
      rw [pwl_len] at this
      omega
    have ev' : ∀ x, ev (trim (pwl (-a) h m)) x = (-a) * (x - h) ^ m := fun x => by rw [ev_trim, pwl_ev]
    have ha' : -a ≠ 0 := fun z => ha (by grind)
    have hne : (trim (pwl (-a) h m)).length ≠ 0 := fun z => by
      have e1 := ev' (h + 1)
      rw [List.length_eq_zero_iff.mp z] at e1
      have e2 : h + 1 - h = 1 := by grind
      rw [e2] at e1
      simp only [ev] at e1
      have e3 : (1 : Rat) ^ m = 1 := one_pw m
      rw [e3] at e1
      exact ha' (by grind)
    rw [ht] at hif ⊢
    refine ev_sifF (by rw [hif]; exact congrArg okM (decide_eq_false (by omega))) (ev_snext ?_)
    refine ev_sset (x := .dat (.int (-1))) (ev_fU rfl rfl) rfl (by walk_at "ss") ?_
    have zh : NB.Sz 14 h := by
      refine Gz.sz (D := Q) ⟨u, hu, ?_⟩ hQ ?_
      · have : (2 : Nat) ^ 13 < 2 ^ 14 := by decide
        omega
      · have : (2 : Nat) ^ 13 < 2 ^ 14 := by decide
        omega
    obtain ⟨L, eL⟩ := sm_loop l l' h m hm zh _ (-a) ha' ev' hz hn
    exact ev_seq eL (ev_ret rfl rfl)
def D0 : Int := 6 * 12 ^ 6
theorem D0_nz : D0 ≠ 0 := by decide
theorem D0_lt : D0.natAbs < 2 ^ 30 := by decide
def Pl (k : Nat) (q : Rat) : Prop := ∃ u : Int, q * ((12 : Int) : Rat) = (u : Rat) ∧ u.natAbs ≤ 36 + 48 * k
theorem Pl.gz {k : Nat} {q : Rat} (h : Pl k q) (hk : k ≤ 8) : Gz 12 9 q := by
  obtain ⟨u, e, b⟩ := h
  exact ⟨u, e, by omega⟩
theorem Pl.sz {k : Nat} {q : Rat} (h : Pl k q) (hk : k ≤ 8) : NB.Sz 9 q := (h.gz hk).sz (by decide) (by decide)
theorem Dk_lt (j : Nat) : ((6 : Int) * 12 ^ j).natAbs < 2 ^ (3 + 4 * j) := by
  rw [Int.natAbs_mul, Int.natAbs_pow, Nat.pow_add, Nat.pow_mul]
  have h1 : (12 : Int).natAbs ^ j ≤ 16 ^ j := Nat.pow_le_pow_left (by decide) j
  have h2 : 0 < 16 ^ j := Nat.pow_pos (by decide)
  show 6 * (12 : Int).natAbs ^ j < 2 ^ 3 * (2 ^ 4) ^ j
  have e16 : (2 : Nat) ^ 4 = 16 := rfl
  have e8 : (2 : Nat) ^ 3 = 8 := rfl
  rw [e16, e8]
  omega
theorem Dk_nz (j : Nat) : ((6 : Int) * 12 ^ j) ≠ 0 := Int.mul_ne_zero (by decide) (Int.pow_ne_zero (by decide))
theorem pw_step (l : List Rat) (h a : Rat) (j k : Nat) (hk : k ≤ 8) (hh : Pl k h) (hj : j ≤ 5) (hlen : l.length = j + 1) (ht : trim l = l) (hev : ∀ x, ev l x = a * (x - h) ^ j) (hg : ∀ v ∈ l, Gz (6 * 12 ^ j) (5 + 17 * j) v) :
    ∃ l' : List Rat, FL_product [cD l, cD [-h, 1]] = okM (.val (cD l')) ∧ l'.length = j + 2 ∧ trim l' = l' ∧ (∀ x, ev l' x = a * (x - h) ^ (j + 1)) ∧ (∀ v ∈ l', Gz (6 * 12 ^ (j + 1)) (5 + 17 * (j + 1)) v) := by
  have gh : Gz 12 9 (-h) := by
    obtain ⟨u, e, b⟩ := hh.gz hk
    exact ⟨-u, by rw [Rat.intCast_neg]; grind, by omega⟩
  have gc : ∀ c ∈ [-h, 1], Gz 12 9 c := fun c hc => by
    rcases List.mem_cons.mp hc with rfl | hc
    · exact gh
    · rw [List.mem_singleton] at hc; subst hc; exact ⟨12, by rw [Rat.one_mul], by decide⟩
  have nz := Dk_nz (j + 1)
  have lt := Dk_lt (j + 1)
  have l0 : l ≠ [] := fun z => by rw [z] at hlen; simp at hlen
  obtain ⟨F, h1, h2, h3, h4⟩ := L_product l [-h, 1] (fun i v => Gz (6 * 12 ^ (j + 1)) (5 + 17 * j + 10 + i) v) (Gz.zero _ _) (fun i v hv => hv.mono (by omega))
    (fun i v hv a ha c hc => by
      have := (hg a ha).mulG (gc c hc)
      rw [Int.mul_assoc, ← Int.pow_succ] at this
      exact hv.add this (by omega) (by omega))
    (fun i v hi hv => ((hv.mono (n := 2500) (by omega)).sz nz (Nat.lt_of_lt_of_le lt (Nat.pow_le_pow_right (by decide) (by omega)))))
    (fun v hv => ((hg v hv).mono (n := 600) (by omega)).sz (Dk_nz j) (Nat.lt_of_lt_of_le (Dk_lt j) (Nat.pow_le_pow_right (by decide) (by omega))))
    (fun c hc => (((gc c hc).mono (n := 600) (by decide))).sz (by decide) (Nat.lt_of_lt_of_le (show (12 : Int).natAbs < 2 ^ 9 by decide) (Nat.pow_le_pow_right (by decide) (by decide)))) (by omega) (by simp) l0 (by simp)
  have tm : trim [-h, 1] = [-h, 1] := trim_snoc (l := [-h]) (a := 1) (by decide)
  have ml := mul_len ht tm l0 (by simp) h2
  refine ⟨trim F, h4, by rw [ml, hlen]; rfl, tt F, fun x => ?_, fun v hv => (h3 v (trim_mem hv)).mono (by omega)⟩
  rw [ev_trim, h2, hev, Rat.pow_succ]; simp only [ev]; grind
theorem nx_loop (l : List Rat) (h a : Rat) (c s : Int) (k m : Nat) (hk : k ≤ 8) (hh : Pl k h) (hm : m ≤ 4) (ha : a ≠ 0) (ga : Gz 6 5 a) :
    ∃ (l' : List Rat) (r : Sl), l'.length = m + 1 ∧ trim l' = l' ∧ (∀ x, ev l' x = a * (x - h) ^ m) ∧ (∀ v ∈ l', Gz (6 * 12 ^ m) (5 + 17 * m) v) ∧ forN (tName 5) ZZ1 (rangeL 0 m) [.dat (cD l), .dat (nD h), .dat (.int c), .dat (.int s), .dat (cD [a]), .no] = some (.next [.dat (cD l), .dat (nD h), .dat (.int c), .dat (.int s), .dat (cD l'), r]) := by
  obtain ⟨δ', e, l', r, rfl, h1, h2, h3, h4⟩ := forN_inv (g := tName 5) (b := ZZ1) (δ := [.dat (cD l), .dat (nD h), .dat (.int c), .dat (.int s), .dat (cD [a]), .no])
    (fun j δ => ∃ (l' : List Rat) (r : Sl), δ = [.dat (cD l), .dat (nD h), .dat (.int c), .dat (.int s), .dat (cD l'), r] ∧ l'.length = j + 1 ∧ trim l' = l' ∧ (∀ x, ev l' x = a * (x - h) ^ j) ∧ (∀ v ∈ l', Gz (6 * 12 ^ j) (5 + 17 * j) v))
    (rangeL 0 m) ⟨[a], .no, rfl, rfl, trim_snoc (l := []) ha, fun x => by simp only [ev, Rat.pow_zero]; grind, fun v hv => by rw [List.mem_singleton] at hv; subst hv; simpa using ga⟩
    (by
      rintro j d δ hd ⟨l1, r, rfl, h1, h2, h3, h4⟩
      obtain ⟨hj, rfl⟩ := range_at hd
      obtain ⟨l2, e2, g1, g2, g3, g4⟩ := pw_step l1 h a j k hk hh (by omega) h1 h2 h3 h4
      refine ⟨_, _, rfl, .inl (ev_set (x := .dat (cD l2)) (ev_call (ecz rfl (ecz (x := .dat (cD [-h, 1])) (ev_call (ecz (x := .dat (nD (-h))) (ev_call (ecz (x := .dat (nD (-1))) (ev_call rfl rfl) (ecz rfl rfl)) ?_) (ecz (x := .dat (nD 1)) (ev_call rfl rfl) rfl)) rfl) rfl)) (ev_gF rfl rfl e2 (outZ_cur _))) rfl rfl), l2, _, rfl, g1, g2, g3, g4⟩
      have := L_times (-1) h ((show NB.Sz 2 (-1) from ⟨by decide, by decide⟩).mono (by decide)) ((hh.sz hk).mono (by decide))
      have e3 : (-1 : Rat) * h = -h := by grind
      rw [e3] at this
      exact ev_gF rfl rfl this (outZ_num _))
  rw [range_len] at h1 h3 h4
  exact ⟨l', r, h1, h2, h3, h4, e⟩
theorem L_next (l : List Rat) (h : Rat) (c : Int) (k n : Nat) (hk : k ≤ 8) (hh : Pl k h) (hl : l.length ≤ 7) (ht : trim l = l) (hn : 140 ≤ n) (hn2 : n ≤ 500) (hg : ∀ v ∈ l, Gz D0 n v) :
    ∃ (l' : List Rat) (s : PyData), FL_next [cD l, nD h, .int c] = okM (.val (.tuple [cD l', s])) ∧ l'.length ≤ 7 ∧ trim l' = l' ∧ (∀ v ∈ l', Gz D0 (n + 1) v) ∧ Jn 6 5 l h l' s := by
  obtain ⟨s, hs⟩ : ∃ s : Int, s = c % 7 - 2 := ⟨_, rfl⟩
  have hs1 := Int.emod_nonneg c (b := 7) (by decide)
  have hs2 := Int.emod_lt_of_pos c (b := 7) (by decide)
  have hsm : fB (f2 (gEq false) (fVar 3) (fU negOf (fC (.int 2)))) [.dat (cD l), .dat (nD h), .dat (.int c), .dat (.int s), .no, .no] = okM (decide (s = -2)) := ev_fB (ev_f2 rfl (ev_fU (x := .dat (.int 2)) (z := .dat (.int (-2))) rfl rfl) (gEq_int _ _)) rfl
  by_cases cs : s = -2
  · refine ⟨l, .none, ev_fn rfl ?_, hl, ht, fun v hv => (hg v hv).mono (by omega), .inl ⟨rfl, rfl⟩⟩
    show BL_next [.dat (cD l), .dat (nD h), .dat (.int c), .no, .no, .no] = _
    unfold BL_next
    refine ev_sset (x := .dat (.int s)) (ev_f2 (ev_f2 rfl rfl (gModP (by decide))) rfl (by rw [hs]; rfl)) rfl (by walk_at "ss") ?_
    refine ev_sifT (hsm ▸ congrArg okM (decide_eq_true cs)) ?_
    exact ev_sret (ev_call rfl rfl) rfl
  · obtain ⟨t, ht0⟩ : ∃ t : Int, t = 1 + c / 7 % 5 := ⟨_, rfl⟩
    obtain ⟨b, hb0⟩ : ∃ b : Int, b = 1 + c / 35 % 3 := ⟨_, rfl⟩
    have t1 : 1 ≤ t ∧ t ≤ 5 := by omega
    have b1 : 1 ≤ b ∧ b ≤ 3 := by omega
    obtain ⟨m, hm⟩ : ∃ m : Nat, (m : Int) = (if 3 < s then 3 else s) + 1 := ⟨((if 3 < s then 3 else s) + 1).toNat, by split <;> omega⟩
    have hm6 : m ≤ 4 := by split at hm <;> omega
    have q0 : Rat.divInt t b ≠ 0 := by
      intro z
      rw [Rat.divInt_eq_div] at z
      have hbr : (b : Rat) ≠ 0 := by exact_mod_cast (show b ≠ 0 by omega)
      have htr : (t : Rat) ≠ 0 := by exact_mod_cast (show t ≠ 0 by omega)
      exact htr (by grind)
    have gq : Gz 6 5 (Rat.divInt t b) := by
      have hbr : (b : Rat) ≠ 0 := by exact_mod_cast (show b ≠ 0 by omega)
      have : b = 1 ∨ b = 2 ∨ b = 3 := by omega
      rcases this with rfl | rfl | rfl
      · exact ⟨t * 6, by rw [Rat.divInt_eq_div, Rat.intCast_mul]; grind, by omega⟩
      · exact ⟨t * 3, by rw [Rat.divInt_eq_div, Rat.intCast_mul]; grind, by omega⟩
      · exact ⟨t * 2, by rw [Rat.divInt_eq_div, Rat.intCast_mul]; grind, by omega⟩
    have fin : ∀ a : Rat, a ≠ 0 → Gz 6 5 a → ∃ l' : List Rat, (fSeq (fFor (fR rng1 (fCons (f2 (gI gAdd) (fCall (g2 (gI gMin)) (fCons (fVar 3) (fCons (fC (.int 3)) fNil))) (fC (.int 1))) fNil)) (tName 5) ZZ1)
    (fRet (fCall D3.gTup (fCons (fCall (gF 2 FL_sum) (fCons (fVar 0) (fCons (fVar 4) fNil))) (fCons (fCall (g2 (gI gMin)) (fCons (fVar 3) (fCons (fC (.int 3)) fNil))) fNil))))) [.dat (cD l), .dat (nD h), .dat (.int c), .dat (.int s), .dat (cD [a]), .no] = some (.ret (.val (.tuple [cD l', .int ((m : Int) - 1)]))) ∧ l'.length ≤ 7 ∧ trim l' = l' ∧ (∀ v ∈ l', Gz D0 (n + 1) v) ∧ ∀ x, ev l' x = ev l x + a * (x - h) ^ m := by
      intro a ha ga
      obtain ⟨l2, r, k1, k2, k3, k4, e⟩ := nx_loop l h a c s k m hk hh hm6 ha ga
      have z2 : ∀ v ∈ l2, Gz D0 140 v := fun v hv => by
        have := (k4 v hv).up (e := 4 * (6 - m) + 1) (12 ^ (6 - m)) (by
          rw [Int.natAbs_pow, Nat.pow_succ, Nat.pow_mul]
          have h1 : (12 : Int).natAbs ^ (6 - m) ≤ 16 ^ (6 - m) := Nat.pow_le_pow_left (by decide) _
          have h2 : 0 < 16 ^ (6 - m) := Nat.pow_pos (by decide)
          have e16 : (2 : Nat) ^ 4 = 16 := rfl
          rw [e16]; omega)
        have e6 : m + (6 - m) = 6 := by omega
        rw [Int.mul_assoc, ← Int.pow_add, e6] at this
        exact this.mono (by omega)
      have y1 : ∀ v ∈ l, NB.Sz 1900 v := fun v hv => ((hg v hv).mono (n := 1900) (by omega)).sz D0_nz (Nat.lt_of_lt_of_le D0_lt (Nat.pow_le_pow_right (by decide) (by decide)))
      have y2 : ∀ v ∈ l2, NB.Sz 1900 v := fun v hv => ((z2 v hv).mono (n := 1900) (by omega)).sz D0_nz (Nat.lt_of_lt_of_le D0_lt (Nat.pow_le_pow_right (by decide) (by decide)))
      have es := L_sum l l2 y1 y2 (by omega) (by omega)
      have hmin : g2 (gI gMin) [.dat (.int s), .dat (.int 3)] = okM (.dat (.int ((m : Int) - 1))) := by
        show okM (Rz.dat (PyData.int (if (3 : Int) < s then 3 else s))) = _
        congr 3; split at hm <;> split <;> omega
      refine ⟨trim (addP 1 l l2), ev_seq (ev_for (ev_rng1 (m := m) (j := (m : Int)) (ecz (ev_f2 (ev_call rfl hmin) rfl (?_ : gI gAdd _ _ = _)) rfl) (by omega) (by omega) (by omega)) e) (ev_ret (ev_call (ecz (ev_call (ecz rfl (ecz rfl rfl)) (ev_gF rfl rfl es (outZ_cur _))) (ecz (ev_call rfl hmin) rfl)) rfl) rfl), ?_, tt _, fun v hv => add_gz hg z2 (by omega) (by omega) v (trim_mem hv), fun x => by rw [ev_trim, addP_ev, k3, Rat.one_mul]⟩
      · show okM (Rz.dat (PyData.int ((m : Int) - 1 + 1))) = _
        congr 3; omega
      · have := trim_len (addP 1 l l2)
        rw [addP_len] at this
        omega
    have hnum := L_num t b (by omega) (Nat.lt_of_lt_of_le (show b.natAbs < 2 ^ 2 by omega) (Nat.pow_le_pow_right (by decide) (by decide)))
    have pre : ∀ {r : Option Fl}, (fSeq (fIfS (fB (f2 (gEq false) (f2 (gI gMod) (f2 (gI gFdiv) (fVar 2) (fC (.int 105))) (fC (.int 2))) (fC (.int 1)))) (fSet 4 (fCall (gF 2 FL_product) (fCons (fVar 4) (fCons (fCall D3.gTup (fCons (fCall D3.gTup (fCons (fU negOf (fC (.int 1))) (fCons (fC (.int 1)) fNil))) fNil)) fNil)))) fNext)
    (fSeq (fFor (fR rng1 (fCons (f2 (gI gAdd) (fCall (g2 (gI gMin)) (fCons (fVar 3) (fCons (fC (.int 3)) fNil))) (fC (.int 1))) fNil)) (tName 5) ZZ1)
    (fRet (fCall D3.gTup (fCons (fCall (gF 2 FL_sum) (fCons (fVar 0) (fCons (fVar 4) fNil))) (fCons (fCall (g2 (gI gMin)) (fCons (fVar 3) (fCons (fC (.int 3)) fNil))) fNil)))))) [.dat (cD l), .dat (nD h), .dat (.int c), .dat (.int s), .dat (cD [Rat.divInt t b]), .no] = r → BL_next [.dat (cD l), .dat (nD h), .dat (.int c), .no, .no, .no] = r := fun hr => by
      unfold BL_next
      refine ev_sset (x := .dat (.int s)) (ev_f2 (ev_f2 rfl rfl (gModP (by decide))) rfl (by rw [hs]; rfl)) rfl (by walk_at "ss") ?_
      refine ev_sifF (hsm ▸ congrArg okM (decide_eq_false cs)) (ev_snext ?_)
      refine ev_sset (x := .dat (cD [Rat.divInt t b])) (ev_call (ecz (ev_call (ecz (x := .dat (.int t)) (ev_f2 rfl (ev_f2 (ev_f2 rfl rfl (gFdivP (by decide) (by decide))) rfl (gModP (by decide))) (by rw [ht0]; rfl)) (ecz (x := .dat (.int b)) (ev_f2 rfl (ev_f2 (ev_f2 rfl rfl (gFdivP (by decide) (by decide))) rfl (gModP (by decide))) (by rw [hb0]; rfl)) rfl)) (ev_gF rfl rfl hnum (outZ_num _))) rfl) rfl) rfl (by walk_at "ss") hr
    by_cases cg : c / 105 % 2 = 1
    · have ga : Gz 6 5 (-(Rat.divInt t b)) := by
        obtain ⟨z, e1, b1⟩ := gq
        exact ⟨-z, by rw [Rat.intCast_neg]; grind, by omega⟩
      have na : -(Rat.divInt t b) ≠ 0 := fun z => q0 (by grind)
      obtain ⟨l', e, f1, f2', f3, f4⟩ := fin _ na ga
      obtain ⟨F, h1, h2, _, h4⟩ := L_product [Rat.divInt t b] [-1] (fun i v => Gz 6 (7 + i) v) (Gz.zero _ _) (fun i v hv => hv.mono (by omega))
        (fun i v hv a ha c hc => by
          rw [List.mem_singleton] at ha hc
          subst ha hc
          have e1 : Rat.divInt t b * -1 = -(Rat.divInt t b) := by grind
          rw [e1]
          exact hv.add ga (by omega) (by omega))
        (fun i v hi hv => ((hv.mono (n := 2500) (by simp at hi; omega)).sz (by decide) (Nat.lt_of_lt_of_le (show (6 : Int).natAbs < 2 ^ 3 by decide) (Nat.pow_le_pow_right (by decide) (by decide)))))
        (fun a ha => by rw [List.mem_singleton] at ha; subst ha; exact ((gq.mono (n := 600) (by decide)).sz (by decide) (Nat.lt_of_lt_of_le (show (6 : Int).natAbs < 2 ^ 3 by decide) (Nat.pow_le_pow_right (by decide) (by decide)))))
        (fun a ha => by rw [List.mem_singleton] at ha; subst ha; exact (show NB.Sz 2 (-1) from ⟨by decide, by decide⟩).mono (by decide)) (by simp) (by simp) (by simp) (by simp)
      have eF : trim F = [-(Rat.divInt t b)] := by
        have := trim_inj (l := F) (m := [-(Rat.divInt t b)]) fun x => by rw [h2]; simp only [ev]; grind
        rw [this]; exact trim_snoc (l := []) na
      rw [eF] at h4
      refine ⟨l', _, ev_fn rfl (pre ?_), f1, f2', f3, .inr ⟨m, _, na, by omega, ga, rfl, f4⟩⟩
      refine ev_sifT (by rw [ev_fB (ev_f2 (ev_f2 (ev_f2 rfl rfl (gFdivP (by decide) (by decide))) rfl (gModP (by decide))) rfl (gEq_int _ _)) rfl]; exact congrArg okM (decide_eq_true cg)) ?_
      exact ev_sset (x := .dat (cD [-(Rat.divInt t b)])) (ev_call (ecz rfl (ecz (x := .dat (cD [-1])) (ev_call (ecz (ev_call (ecz (ev_fU rfl rfl) (ecz rfl rfl)) rfl) rfl) rfl) rfl)) (ev_gF rfl rfl h4 (outZ_cur _))) rfl (by walk_at "ss") e
    · obtain ⟨l', e, f1, f2', f3, f4⟩ := fin _ q0 gq
      refine ⟨l', _, ev_fn rfl (pre ?_), f1, f2', f3, .inr ⟨m, _, q0, by omega, gq, rfl, f4⟩⟩
      exact ev_sifF (by rw [ev_fB (ev_f2 (ev_f2 (ev_f2 rfl rfl (gFdivP (by decide) (by decide))) rfl (gModP (by decide))) rfl (gEq_int _ _)) rfl]; exact congrArg okM (decide_eq_false cg)) (ev_snext e)
def pD (p : Rat × Rat × List Rat) : PyData := .tuple [nD p.1, nD p.2.1, cD p.2.2]
def Cn (p : Rat × Rat × List Rat) : Prop := p.1 < p.2.1 ∧ Pl 8 p.1 ∧ Pl 8 p.2.1 ∧ p.2.2.length ≤ 7 ∧ trim p.2.2 = p.2.2 ∧ ∀ v ∈ p.2.2, Gz D0 150 v
theorem Pl.mono {a b : Nat} {q : Rat} (h : Pl a q) (hab : a ≤ b) : Pl b q := by
  obtain ⟨u, e, z⟩ := h
  exact ⟨u, e, by omega⟩
theorem Pl.step {k : Nat} {q : Rat} (h : Pl k q) (c : Int) : Pl (k + 1) (q + Rat.divInt (1 + c % 4) (1 + c / 4 % 3)) ∧ q < q + Rat.divInt (1 + c % 4) (1 + c / 4 % 3) ∧ NB.Sz 4 (Rat.divInt (1 + c % 4) (1 + c / 4 % 3)) := by
  obtain ⟨t, ht⟩ : ∃ t : Int, t = 1 + c % 4 := ⟨_, rfl⟩
  obtain ⟨b, hb⟩ : ∃ b : Int, b = 1 + c / 4 % 3 := ⟨_, rfl⟩
  rw [← ht, ← hb]
  have t1 : 1 ≤ t ∧ t ≤ 4 := by omega
  have b1 : 1 ≤ b ∧ b ≤ 3 := by omega
  have hbr : (b : Rat) ≠ 0 := by exact_mod_cast (show b ≠ 0 by omega)
  refine ⟨?_, ?_, NB.Sz.divInt (by omega) (by omega) (by omega)⟩
  · obtain ⟨u, e, z⟩ := h
    have : b = 1 ∨ b = 2 ∨ b = 3 := by omega
    rcases this with rfl | rfl | rfl
    · exact ⟨u + t * 12, by rw [Rat.divInt_eq_div, Rat.intCast_add, Rat.intCast_mul]; grind, by omega⟩
    · exact ⟨u + t * 6, by rw [Rat.divInt_eq_div, Rat.intCast_add, Rat.intCast_mul]; grind, by omega⟩
    · exact ⟨u + t * 4, by rw [Rat.divInt_eq_div, Rat.intCast_add, Rat.intCast_mul]; grind, by omega⟩
  · have : 0 < Rat.divInt t b := by
      rw [Rat.divInt_eq_div]
      have h1 : (0 : Rat) < (t : Rat) := by exact_mod_cast (show (0 : Int) < t by omega)
      have h2 : (0 : Rat) < (b : Rat) := by exact_mod_cast (show (0 : Int) < b by omega)
      rw [Rat.div_def]
      exact Rat.mul_pos h1 (Rat.inv_pos.mpr h2)
    grind
def Ss (s : PyData) : Prop := s = .none ∨ ∃ i : Int, s = .int i
theorem Jn.ss {E : Int} {e : Nat} {l : List Rat} {h : Rat} {l' : List Rat} {s : PyData} (J : Jn E e l h l' s) : Ss s := by
  rcases J with ⟨rfl, _⟩ | ⟨m, _, _, _, _, rfl, _⟩
  · exact .inl rfl
  · exact .inr ⟨_, rfl⟩
theorem Ss.no {s : PyData} (h : Ss s) : noL s = true := by
  rcases h with rfl | ⟨i, rfl⟩ <;> rfl
theorem Ss.nos : ∀ {ss : List PyData}, (∀ s ∈ ss, Ss s) → noLs ss = true
  | [], _ => rfl
  | s :: r, h => by unfold noLs; rw [(h s (List.mem_cons_self ..)).no, Ss.nos fun s hs => h s (List.mem_cons_of_mem _ hs)]; rfl
theorem noL_pD (p : Rat × Rat × List Rat) : noL (pD p) = true := by
  unfold pD noL noLs
  simp only [noL_num, noL_cD, noLs, Bool.and_self]
theorem noLs_pD : ∀ l : List (Rat × Rat × List Rat), noLs (l.map pD) = true
  | [] => rfl
  | p :: r => by rw [List.map_cons]; unfold noLs; rw [noL_pD, noLs_pD r]; rfl
def Ln (ps : List (Rat × Rat × List Rat)) (ss : List PyData) (lo : Rat) (cu : List Rat) : Prop := ∀ j p s, ps[j]? = some p → ss[j]? = some s → (∀ p', ps[j + 1]? = some p' → p'.1 = p.2.1 ∧ Jn 6 5 p.2.2 p.2.1 p'.2.2 s) ∧ (j + 1 = ps.length → lo = p.2.1 ∧ Jn 6 5 p.2.2 p.2.1 cu s)
theorem Ln.step {ps : List (Rat × Rat × List Rat)} {ss : List PyData} {lo hi : Rat} {cu cu' : List Rat} {s' : PyData} (h : Ln ps ss lo cu) (hl : ss.length = ps.length) (J : Jn 6 5 cu hi cu' s') : Ln (ps ++ [(lo, hi, cu)]) (ss ++ [s']) hi cu' := by
  intro j p s hp hs
  have hj : j < ps.length + 1 := by
    by_cases c : j < ps.length + 1
    · exact c
    · rw [List.getElem?_eq_none (by simp; omega)] at hp; cases hp
  by_cases c : j < ps.length
  · rw [List.getElem?_append_left c] at hp
    rw [List.getElem?_append_left (by omega)] at hs
    obtain ⟨h1, h2⟩ := h j p s hp hs
    refine ⟨fun p' hp' => ?_, fun z => by simp at z; omega⟩
    by_cases c2 : j + 1 < ps.length
    · rw [List.getElem?_append_left c2] at hp'
      exact h1 p' hp'
    · have e : j + 1 = ps.length := by omega
      rw [e, List.getElem?_append_right (by omega), Nat.sub_self] at hp'
      cases hp'
      exact h2 e
  · have e : j = ps.length := by omega
    subst e
    rw [List.getElem?_append_right (by omega), Nat.sub_self] at hp
    rw [List.getElem?_append_right (by omega), hl, Nat.sub_self] at hs
    cases hp
    cases hs
    refine ⟨fun p' hp' => ?_, fun _ => ⟨rfl, J⟩⟩
    rw [List.getElem?_eq_none (by simp)] at hp'; cases hp'
theorem cut_m1 (ds : List PyData) (d : PyData) : cutD (ds ++ [d]) none (some (-1)) = ds := by
  have e : HT.sIx (ds ++ [d]).length (ds ++ [d]).length (some (-1)) = ds.length := by
    unfold HT.sIx
    rw [List.length_append, List.length_singleton]
    dsimp only
    rw [if_pos (by decide)]
    omega
  have e0 : HT.sIx (ds ++ [d]).length 0 none = 0 := rfl
  unfold cutD
  rw [e, e0, List.drop_zero, Nat.sub_zero, List.take_left' rfl]
theorem pc_start (ns : List Int) (at_ most : Int) (pls : List Rat) (n : Nat) (lo : Rat) (h0 : 0 ≤ at_) (h1 : at_ ≤ 1000) : ∃ l : List Rat, l.length ≤ 3 ∧ trim l = l ∧ (∀ v ∈ l, Gz D0 140 v) ∧ (fCall (gF 1 FL_clean) (fCons (fLC (fR rng1 (fCons (fC (.int 3)) fNil)) fTrue (fCall (gF 2 FL_num) (fCons (f2 (gI D3.gSub) (f2 (gI gMod) (fCall (gF 2 FL_cell_at) (fCons (fVar 1) (fCons (f2 (gI gAdd) (f2 (gI gAdd) (fVar 2) (fC (.int 1))) (fVar 0)) fNil))) (fC (.int 9))) (fC (.int 4))) (fCons (f2 (gI gAdd) (fC (.int 1)) (f2 (gI gMod) (fVar 0) (fC (.int 2)))) fNil)))) fNil)) [.dat (scr ns), .dat (.int at_), .dat (.int most), .dat (lD pls), .dat (.int (n : Int)), .dat (nD lo), .no, .no, .no, .no, .no, .no, .no] = okM (.dat (cD l)) := by
  obtain ⟨l, e1, e2, e3⟩ := lc_ex (fCall (gF 2 FL_num) (fCons (f2 (gI D3.gSub) (f2 (gI gMod) (fCall (gF 2 FL_cell_at) (fCons (fVar 1) (fCons (f2 (gI gAdd) (f2 (gI gAdd) (fVar 2) (fC (.int 1))) (fVar 0)) fNil))) (fC (.int 9))) (fC (.int 4))) (fCons (f2 (gI gAdd) (fC (.int 1)) (f2 (gI gMod) (fVar 0) (fC (.int 2)))) fNil))) [.dat (scr ns), .dat (.int at_), .dat (.int most), .dat (lD pls), .dat (.int (n : Int)), .dat (nD lo), .no, .no, .no, .no, .no, .no, .no] (fun q => Gz D0 140 q) (rangeL 0 3) (fun d hd => by
    obtain ⟨i, hi, rfl⟩ := range_mem hd
    obtain ⟨c, hc⟩ := L_cell ns (at_ + 1 + (0 + (i : Int))) (by omega) (by omega)
    obtain ⟨b, hb⟩ : ∃ b : Int, b = 1 + (0 + (i : Int)) % 2 := ⟨_, rfl⟩
    obtain ⟨t, ht⟩ : ∃ t : Int, t = c % 9 - 4 := ⟨_, rfl⟩
    have b1 : b = 1 ∨ b = 2 := by omega
    have t1 : -4 ≤ t ∧ t ≤ 4 := by omega
    refine ⟨Rat.divInt t b, ev_call (ecz (x := .dat (.int t)) (ev_f2 (ev_f2 (ev_call (ecz rfl (ecz (ev_f2 (ev_f2 rfl rfl rfl) rfl rfl) rfl)) (ev_gF rfl rfl hc rfl)) rfl (gModP (by decide))) rfl (by rw [ht]; rfl)) (ecz (x := .dat (.int b)) (ev_f2 rfl (ev_f2 rfl rfl (gModP (by decide))) (by rw [hb]; rfl)) rfl)) (ev_gF rfl rfl (L_num t b (by omega) (Nat.lt_of_lt_of_le (show b.natAbs < 2 ^ 2 by omega) (Nat.pow_le_pow_right (by decide) (by decide)))) (outZ_num _)), ?_⟩
    have hd0 : D0 = 6 * 12 ^ 6 := rfl
    rcases b1 with rfl | rfl
    · refine ⟨t * 17915904, by rw [Rat.divInt_eq_div, Rat.intCast_mul]; show _ * (((17915904 : Int)) : Rat) = _; grind, Nat.lt_of_lt_of_le (show (t * 17915904).natAbs < 2 ^ 40 by omega) (Nat.pow_le_pow_right (by decide) (by decide))⟩
    · refine ⟨t * 8957952, by rw [Rat.divInt_eq_div, Rat.intCast_mul]; show _ * (((17915904 : Int)) : Rat) = _; grind, Nat.lt_of_lt_of_le (show (t * 8957952).natAbs < 2 ^ 40 by omega) (Nat.pow_le_pow_right (by decide) (by decide))⟩)
  rw [range_len] at e1
  have sl : (sizeLine : Nat) = 16777216 := rfl
  have hLC : (fLC (fR rng1 (fCons (fC (.int 3)) fNil)) fTrue (fCall (gF 2 FL_num) (fCons (f2 (gI D3.gSub) (f2 (gI gMod) (fCall (gF 2 FL_cell_at) (fCons (fVar 1) (fCons (f2 (gI gAdd) (f2 (gI gAdd) (fVar 2) (fC (.int 1))) (fVar 0)) fNil))) (fC (.int 9))) (fC (.int 4))) (fCons (f2 (gI gAdd) (fC (.int 1)) (f2 (gI gMod) (fVar 0) (fC (.int 2)))) fNil)))) [.dat (scr ns), .dat (.int at_), .dat (.int most), .dat (lD pls), .dat (.int (n : Int)), .dat (nD lo), .no, .no, .no, .no, .no, .no, .no] = okM (.new (l.map nD)) := by
    unfold fLC
    rw [ev_rng1 (m := 3) (ecz rfl rfl) (by decide) (by decide) (by decide), bnd_okM, if_pos (by rw [range_len]; omega), e3]
  refine ⟨trim l, by have := trim_len l; omega, tt l, fun v hv => e2 v (trim_mem hv), ev_call (ecz hLC rfl) (ev_gF (ds := [lD l]) rfl rfl (L_clean l) (outZ_cur _))⟩
theorem pc_loop (ns : List Int) (at_ most : Int) (pls : List Rat) (n : Nat) (lo : Rat) (cu : List Rat) (h0 : 0 ≤ at_) (h1 : at_ ≤ 1000) (hn : n ≤ 8) (hlo : Pl 0 lo) (hc1 : cu.length ≤ 7) (hc2 : trim cu = cu) (hc3 : ∀ v ∈ cu, Gz D0 140 v) :
    ∃ (ps : List (Rat × Rat × List Rat)) (ss : List PyData) (lo' : Rat) (cu' : List Rat) (r9 r10 r11 r12 : Sl), ps.length = n ∧ ss.length = n ∧ (∀ p ∈ ps, Cn p) ∧ Ln ps ss lo' cu' ∧ (∀ s ∈ ss, Ss s) ∧ forN (tName 9) ZZ2 (rangeL 0 n) [.dat (scr ns), .dat (.int at_), .dat (.int most), .dat (lD pls), .dat (.int (n : Int)), .dat (nD lo), .dat (cD cu), .own [], .own [], .no, .no, .no, .no] = some (.next [.dat (scr ns), .dat (.int at_), .dat (.int most), .dat (lD pls), .dat (.int (n : Int)), .dat (nD lo'), .dat (cD cu'), .own (ps.map pD), .own ss, r9, r10, r11, r12]) := by
  have sl : (sizeLine : Nat) = 16777216 := rfl
  obtain ⟨δ', e, ps, ss, lo', cu', r9, r10, r11, r12, rfl, a1, a2, a3, a4, a5, a6⟩ := forN_inv (g := tName 9) (b := ZZ2) (δ := [.dat (scr ns), .dat (.int at_), .dat (.int most), .dat (lD pls), .dat (.int (n : Int)), .dat (nD lo), .dat (cD cu), .own [], .own [], .no, .no, .no, .no])
    (fun i δ => ∃ (ps : List (Rat × Rat × List Rat)) (ss : List PyData) (lo : Rat) (cu : List Rat) (r9 r10 r11 r12 : Sl), δ = [.dat (scr ns), .dat (.int at_), .dat (.int most), .dat (lD pls), .dat (.int (n : Int)), .dat (nD lo), .dat (cD cu), .own (ps.map pD), .own ss, r9, r10, r11, r12] ∧ ps.length = i ∧ ss.length = i ∧ (∀ p ∈ ps, Cn p) ∧ Ln ps ss lo cu ∧ (∀ s ∈ ss, Ss s) ∧ Pl i lo ∧ cu.length ≤ 7 ∧ trim cu = cu ∧ (∀ v ∈ cu, Gz D0 (140 + i) v))
    (rangeL 0 n) ⟨[], [], lo, cu, .no, .no, .no, .no, rfl, rfl, rfl, (by intro p hp; cases hp), (by intro j p s hp; simp at hp), (by intro s hs; cases hs), hlo, hc1, hc2, hc3⟩
    (by
      rintro i d δ hd ⟨ps, ss, lo, cu, r9, r10, r11, r12, rfl, b1, b2, b3, b4, b9, b5, b6, b7, b8⟩
      obtain ⟨hi, rfl⟩ := range_at hd
      obtain ⟨c, hc⟩ := L_cell ns (at_ + 4 + (0 + (i : Int))) (by omega) (by omega)
      obtain ⟨q1, q2, q3⟩ := b5.step c
      obtain ⟨hi', hhi⟩ : ∃ h : Rat, h = lo + Rat.divInt (1 + c % 4) (1 + c / 4 % 3) := ⟨_, rfl⟩
      have hnum := L_num (1 + c % 4) (1 + c / 4 % 3) (by omega) (Nat.lt_of_lt_of_le (show (1 + c / 4 % 3).natAbs < 2 ^ 2 by omega) (Nat.pow_le_pow_right (by decide) (by decide)))
      have hplus := L_plus lo _ ((b5.sz (by omega)).mono (by decide)) (q3.mono (n := 4000) (by decide))
      rw [← hhi] at q1 q2 hplus
      obtain ⟨cu', s', n1, n2, n3, n4, n5⟩ := L_next cu hi' (c / 12) (i + 1) (140 + i) (by omega) q1 b6 b7 (by omega) (by omega) b8
      refine ⟨_, _, rfl, .inl ?_, ps ++ [(lo, hi', cu)], ss ++ [s'], hi', cu', .dat (.int (0 + (i : Int))), .dat (.int c), .dat (nD hi'), .dat s', rfl, by simp [b1], by simp [b2], fun p hp => ?_, b4.step (by omega) n5, fun s hs => ?_, q1, n2, n3, n4⟩
      · refine ev_sset (x := .dat (.int c)) (ev_call (ecz rfl (ecz (ev_f2 (ev_f2 rfl rfl rfl) rfl rfl) rfl)) (ev_gF rfl rfl hc rfl)) rfl (by walk_at "ss") ?_
        refine ev_sset (x := .dat (nD hi')) (ev_call (ecz rfl (ecz (ev_call (ecz (ev_f2 rfl (ev_f2 rfl rfl (gModP (by decide))) rfl) (ecz (ev_f2 rfl (ev_f2 (ev_f2 rfl rfl (gFdivP (by decide) (by decide))) rfl (gModP (by decide))) rfl) rfl)) (ev_gF rfl rfl hnum (outZ_num _))) rfl)) (ev_gF rfl rfl hplus (outZ_num _))) rfl (by walk_at "ss") ?_
        refine ev_seq (ev_app (d := pD (lo, hi', cu)) rfl (ev_call rfl rfl) rfl (by rw [List.length_map]; omega) (by walk_at "ss")) ?_
        have noS : noL s' = true := by
          rcases n5 with ⟨rfl, _⟩ | ⟨_, _, _, _, _, rfl, _⟩
          · rfl
          · rfl
        refine ev_seq (ev_asg (d := .tuple [cD cu', s']) (x := .dat (.tuple [cD cu', s'])) (ev_call (ecz rfl (ecz rfl (ecz (ev_f2 rfl rfl (gFdivP (by decide) (by decide))) rfl))) (ev_gF rfl rfl n1 ?_)) rfl rfl) ?_
        · unfold outZ
          dsimp only
          rw [if_pos]
          unfold noL noLs
          simp only [noL_cD, noS, noLs, Bool.and_self]
        refine ev_seq (ev_app (d := s') rfl rfl rfl (by omega) (by walk_at "ss")) ?_
        refine ev_set rfl rfl ?_
        rw [List.map_append]
        rfl
      · rcases List.mem_append.mp hp with hp | hp
        · exact b3 p hp
        · rw [List.mem_singleton] at hp
          subst hp
          exact ⟨q2, b5.mono (by omega), q1.mono (by omega), b6, b7, fun v hv => (b8 v hv).mono (by omega)⟩
      · rcases List.mem_append.mp hs with hs | hs
        · exact b9 s hs
        · rw [List.mem_singleton] at hs
          subst hs
          exact n5.ss)
  rw [range_len] at a1 a2
  exact ⟨ps, ss, lo', cu', r9, r10, r11, r12, a1, a2, a3, a4, a5, e⟩
theorem L_pieces (ns : List Int) (at_ most : Int) (pls : List Rat) (h0 : 0 ≤ at_) (h1 : at_ ≤ 1000) (hm : 1 ≤ most) (hm2 : most ≤ 8) (hp : ∀ q ∈ pls, Pl 0 q) (p0 : pls ≠ []) (p1 : pls.length ≤ 100) :
    ∃ (ps : List (Rat × Rat × List Rat)) (ss : List PyData), FL_pieces [scr ns, .int at_, .int most, lD pls] = okM (.mine (.tuple [.list (ps.map pD), .list ss])) ∧ ps.length ≤ 8 ∧ ss.length + 1 = ps.length ∧ (∀ s ∈ ss, Ss s) ∧ (∀ p ∈ ps, Cn p) ∧ (∀ j p p' s, ps[j]? = some p → ps[j + 1]? = some p' → ss[j]? = some s → p'.1 = p.2.1 ∧ Jn 6 5 p.2.2 p.2.1 p'.2.2 s) := by
  have sl : (sizeLine : Nat) = 16777216 := rfl
  obtain ⟨c, hc⟩ := L_cell ns at_ h0 (by omega)
  have m1 := Int.emod_nonneg c (b := most) (by omega)
  have m2 := Int.emod_lt_of_pos c (b := most) (by omega)
  obtain ⟨n, hn⟩ : ∃ n : Nat, (n : Int) = 1 + c % most := ⟨(1 + c % most).toNat, by omega⟩
  have pl : 0 < pls.length := List.length_pos_iff.mpr p0
  have k1 := Int.emod_nonneg (c / 8) (b := (pls.length : Int)) (by omega)
  have k2 := Int.emod_lt_of_pos (c / 8) (b := (pls.length : Int)) (by omega)
  obtain ⟨k, hk⟩ : ∃ k : Nat, (k : Int) = c / 8 % (pls.length : Int) := ⟨(c / 8 % (pls.length : Int)).toNat, by omega⟩
  obtain ⟨lo, hlo⟩ := getE (l := pls) (j := k) (by omega)
  obtain ⟨cu, u1, u2, u3, u4⟩ := pc_start ns at_ most pls n lo h0 h1
  obtain ⟨ps, ss, lo', cu', r9, r10, r11, r12, a1, a2, a3, a4, a5, e⟩ := pc_loop ns at_ most pls n lo cu h0 h1 (by omega) (hp lo (List.mem_of_getElem? hlo)) (by omega) u2 u3
  have ssne : ss ≠ [] := fun z => by rw [z] at a2; simp at a2; omega
  obtain ⟨ss', s', es⟩ : ∃ ss' s', ss = ss' ++ [s'] := ⟨ss.dropLast, ss.getLast ssne, (List.dropLast_concat_getLast ssne).symm⟩
  subst es
  refine ⟨ps, ss', ev_fn rfl ?_, by omega, by simp at a2; omega, fun s hs => a5 s (List.mem_append_left _ hs), a3, fun j p p' s hp hp' hs => ?_⟩
  · show BL_pieces [.dat (scr ns), .dat (.int at_), .dat (.int most), .dat (lD pls), .no, .no, .no, .no, .no, .no, .no, .no, .no] = _
    unfold BL_pieces
    have hlen : g1 lenOf [Rz.dat (lD pls)] = okM (.dat (.int (pls.length : Int))) := by
      show okM (Rz.dat (PyData.int ((pls.map nD).length : Int))) = _
      rw [List.length_map]
    refine ev_sset (x := .dat (.int (n : Int))) (ev_f2 rfl (ev_f2 (ev_call (ecz rfl (ecz rfl rfl)) (ev_gF rfl rfl hc rfl)) rfl (gModP (by omega))) (by rw [hn]; rfl)) rfl (by walk_at "ss") ?_
    refine ev_sset (x := .dat (nD lo)) (ev_f2 rfl (ev_f2 (ev_f2 (ev_call (ecz rfl (ecz rfl rfl)) (ev_gF rfl rfl hc rfl)) rfl (gFdivP (by decide) (by decide))) (ev_call rfl hlen) (gModP (by omega))) (ix_lst (j := k) hk.symm (get_nD hlo))) rfl (by walk_at "ss") ?_
    refine ev_sset u4 rfl (by walk_at "ss") ?_
    refine ev_sset (x := .new []) (ev_call rfl rfl) rfl (by walk_at "ss") ?_
    refine ev_sset (x := .new []) (ev_call rfl rfl) rfl (by walk_at "ss") ?_
    refine ev_seq (ev_for (ev_rng1 (m := n) (ecz rfl rfl) (by omega) (by omega) (by omega)) e) ?_
    have z1 : (fSl gSlL (fVar 8) fNoP (fPart (fU negOf (fC (.int 1))))) [.dat (scr ns), .dat (.int at_), .dat (.int most), .dat (lD pls), .dat (.int (n : Int)), .dat (nD lo'), .dat (cD cu'), .own (ps.map pD), .own (ss' ++ [s']), r9, r10, r11, r12] = okM (.new ss') := by
      show okM (Rz.new (cutD (ss' ++ [s']) none (some (-1)))) = _
      rw [cut_m1]
    unfold fRetT
    rw [show (fCons (fVar 7) (fCons (fSl gSlL (fVar 8) fNoP (fPart (fU negOf (fC (.int 1))))) fNil)) [.dat (scr ns), .dat (.int at_), .dat (.int most), .dat (lD pls), .dat (.int (n : Int)), .dat (nD lo'), .dat (cD cu'), .own (ps.map pD), .own (ss' ++ [s']), r9, r10, r11, r12] = okM [.var (ps.map pD), .new ss'] from ecz rfl (ecz z1 rfl)]
    show (match minesOf [Rz.var (ps.map pD), Rz.new ss'] with
      | some ds => if ds.length ≤ sizeLine then some (Fl.ret (Out.mine (PyData.tuple ds))) else none
      | none => none) = _
    unfold minesOf minesOf mineOf
    dsimp only
    rw [if_pos (noLs_pD ps), if_pos (Ss.nos fun s hs => a5 s (List.mem_append_left _ hs))]
    rfl
  · have h2 := a4 j p s hp (by rw [List.getElem?_append_left]; exact hs; by_cases c : j < ss'.length; exact c; rw [List.getElem?_eq_none (by omega)] at hs; cases hs)
    exact h2.1 p' hp'
theorem ev_fnN {n m : Nat} {f : List Sl → Option Fl} {ds : List PyData} {δ' : List Sl} (hl : ds.length = n) (h : f (ds.map Sl.dat ++ List.replicate m Sl.no) = some (.next δ')) : fnD n m f ds = okM (.val .none) := by unfold fnD; rw [if_pos hl, h]; rfl
theorem ev_drop {δ : List Sl} {f : List Sl → M Rz} {x : Rz} (h : f δ = okM x) : fDrop f δ = some (.next δ) := by unfold fDrop; rw [h]; rfl
theorem lc_at (fe : List Sl → M Rz) (δ : List Sl) : ∀ (items ds : List PyData), items.length = ds.length → (∀ (i : Nat) (d e : PyData), items[i]? = some d → ds[i]? = some e → ∃ z, fe (.dat d :: δ) = okM z ∧ datOf z = some e) → lcN fTrue fe δ items = some ds
  | [], [], _, _ => rfl
  | [], _ :: _, h, _ => by simp at h
  | _ :: _, [], h, _ => by simp at h
  | d :: r, e :: s, h, g => by
    obtain ⟨z, e1, hz⟩ := g 0 d e rfl rfl
    have h3 := lc_at fe δ r s (by simpa using h) fun i d' e' h1 h2 => g (i + 1) d' e' h1 h2
    unfold lcN
    show (match fe (.dat d :: δ) with | some (.ok z) => (match datOf z, lcN fTrue fe δ r with | some e, some es => some (e :: es) | _, _ => none) | _ => none) = _
    rw [e1]
    show (match datOf z, lcN fTrue fe δ r with | some e, some es => some (e :: es) | _, _ => none) = _
    rw [hz, h3]
theorem bls_map : ∀ bs : List Bool, blsOf (bs.map PyData.bool) = some bs
  | [] => rfl
  | b :: r => by rw [List.map_cons]; unfold blsOf; rw [bls_map r]
theorem q_map (q : List Bool → Bool) (bs : List Bool) : g1 (qOf q) [.new (bs.map PyData.bool)] = okM (.dat (.bool (q bs))) := by
  show qOf q (.new (bs.map PyData.bool)) = _
  unfold qOf Rz.d?
  dsimp only
  rw [bls_map]
theorem P_less (p q : Rat) (zp : NB.Sz 4000 p) (zq : NB.Sz 4000 q) : F_less [nD p, nD q] = okM (.val (.bool (decide (p < q)))) := by
  refine ev_fn rfl ?_
  show B_less [.dat (nD p), .dat (nD q)] = _
  unfold B_less
  have m1 : ∀ {u v : Int}, u.natAbs < 2 ^ 4000 → v.natAbs < 2 ^ 4000 → IntMulOk u v := fun hu hv => mulOk hu hv (by decide)
  have dp : ((p.den : Nat) : Int).natAbs < 2 ^ 4000 := by rw [Int.natAbs_natCast]; exact zp.2
  have dq : ((q.den : Nat) : Int).natAbs < 2 ^ 4000 := by rw [Int.natAbs_natCast]; exact zq.2
  refine ev_ret (x := .dat (.bool (decide (p < q)))) (ev_f2 (ev_f2 (ev_f2 rfl rfl ix_t0) (ev_f2 rfl rfl ix_t1) (gMulI (m1 zp.1 dq))) (ev_f2 (ev_f2 rfl rfl ix_t0) (ev_f2 rfl rfl ix_t1) (gMulI (m1 zq.1 dp))) ?_) rfl
  show okM (Rz.dat (PyData.bool (decide (p.num * (q.den : Int) < q.num * (p.den : Int))))) = _
  congr 3
  exact decide_eq_decide.mpr (Rat.lt_iff p q).symm
theorem gEq_nD (p q : Rat) : gEq false (.dat (nD p)) (.dat (nD q)) = okM (.dat (.bool (decide (p = q)))) := gEqD rfl rfl (ok_num p) (ok_num q) (eqv_num p q)
theorem len_rows (ps : List (Rat × Rat × List Rat)) : g1 lenOf [Rz.dat (.list (ps.map pD))] = okM (.dat (.int (ps.length : Int))) := by
  show okM (Rz.dat (PyData.int ((ps.map pD).length : Int))) = _
  rw [List.length_map]
theorem len_rowt (ps : List (Rat × Rat × List Rat)) : g1 lenOf [Rz.dat (.tuple (ps.map pD))] = okM (.dat (.int (ps.length : Int))) := by
  show okM (Rz.dat (PyData.int ((ps.map pD).length : Int))) = _
  rw [List.length_map]
theorem get_pD {ps : List (Rat × Rat × List Rat)} {i : Nat} {p : Rat × Rat × List Rat} (h : ps[i]? = some p) : (ps.map pD)[i]? = some (pD p) := by rw [List.getElem?_map, h]; rfl
def ltB (ps : List (Rat × Rat × List Rat)) : List Bool := ps.map fun p => decide (p.1 < p.2.1)
def lkB (ps : List (Rat × Rat × List Rat)) : List Bool := (List.range (ps.length - 1)).map fun i => decide ((ps.getD (i + 1) (0, 0, [])).1 = (ps.getD i (0, 0, [])).2.1)
def gtB (ps : List (Rat × Rat × List Rat)) : List Bool := ps.map fun p => decide ((p.2.2.length : Int) - 1 > 6)
def rowOk (ps : List (Rat × Rat × List Rat)) : Bool := !(decide (ps.length = 0) || decide (8 < ps.length)) && ((ltB ps).all id && (lkB ps).all id)
theorem ck_len (ps : List (Rat × Rat × List Rat)) : fOr (fB (f2 (gEq false) (fCall (g1 lenOf) (fCons (fVar 0) fNil)) (fC (.int 0)))) (fB (f2 (gI gGt) (fCall (g1 lenOf) (fCons (fVar 0) fNil)) (fC (.int 8)))) [.dat (.list (ps.map pD))] = okM (decide (ps.length = 0) || decide (8 < ps.length)) := by
  refine ev_or (a := decide (ps.length = 0)) ?_ fun _ => ?_
  · refine (ev_fB (ev_f2 (ev_call rfl (len_rows ps)) rfl (gEq_int _ _)) rfl).trans ?_
    congr 1
    exact decide_eq_decide.mpr (by omega)
  · refine (ev_fB (b := decide ((ps.length : Int) > 8)) (ev_f2 (ev_call rfl (len_rows ps)) rfl rfl) rfl).trans ?_
    congr 1
    exact decide_eq_decide.mpr (by omega)
theorem ck_lt (ps : List (Rat × Rat × List Rat)) (hn : ps.length ≤ 100) (hz : ∀ p ∈ ps, NB.Sz 4000 p.1 ∧ NB.Sz 4000 p.2.1) : fB (fCall (g1 (qOf allB)) (fCons (fLC (fI itemsL (fVar 0)) fTrue (fCall (gF 2 F_less) (fCons (f2 gIx (fVar 0) (fC (.int 0))) (fCons (f2 gIx (fVar 0) (fC (.int 1))) fNil)))) fNil)) [.dat (.list (ps.map pD))] = okM ((ltB ps).all id) := by
  have sl : (sizeLine : Nat) = 16777216 := rfl
  refine ev_fB (ev_call (ecz (x := .new ((ltB ps).map PyData.bool)) ?_ rfl) (q_map _ _)) rfl
  unfold fLC
  rw [ev_fI (items := ps.map pD) rfl rfl, bnd_okM, if_pos (by rw [List.length_map]; omega), lc_any pD (fun p => PyData.bool (decide (p.1 < p.2.1))) _ _ ps ?_]
  · unfold ltB
    rw [List.map_map]; rfl
  · intro p hp
    exact ⟨.dat (.bool (decide (p.1 < p.2.1))), ev_call (ecz (ev_f2 rfl rfl ix_t0) (ecz (ev_f2 rfl rfl ix_t1) rfl)) (ev_gF rfl rfl (P_less _ _ (hz p hp).1 (hz p hp).2) rfl), rfl⟩
theorem getD_at {ps : List (Rat × Rat × List Rat)} {i : Nat} (h : i < ps.length) : ps[i]? = some (ps.getD i (0, 0, [])) := by
  rw [List.getD_eq_getElem?_getD, List.getElem?_eq_getElem h]; rfl
theorem ck_lk (ps : List (Rat × Rat × List Rat)) (hn : ps.length ≤ 100) (h1 : ps.length ≠ 0) : fB (fCall (g1 (qOf allB)) (fCons (fLC (fR rng2 (fCons (fC (.int 1)) (fCons (fCall (g1 lenOf) (fCons (fVar 0) fNil)) fNil))) fTrue (f2 (gEq false) (f2 gIx (f2 gIx (fVar 1) (fVar 0)) (fC (.int 0))) (f2 gIx (f2 gIx (fVar 1) (f2 (gI D3.gSub) (fVar 0) (fC (.int 1)))) (fC (.int 1))))) fNil)) [.dat (.list (ps.map pD))] = okM ((lkB ps).all id) := by
  have sl : (sizeLine : Nat) = 16777216 := rfl
  refine ev_fB (ev_call (ecz (x := .new ((lkB ps).map PyData.bool)) ?_ rfl) (q_map _ _)) rfl
  unfold fLC
  rw [ev_rng2 (m := ps.length - 1) (ecz rfl (ecz (ev_call rfl (len_rows ps)) rfl)) (by omega) (by omega) (by omega) (by omega), bnd_okM, if_pos (by rw [range_len]; omega), lc_at _ _ (rangeL 1 (ps.length - 1)) ((lkB ps).map PyData.bool) (by rw [range_len]; unfold lkB; simp) ?_]
  intro i d e hd he
  obtain ⟨hi, rfl⟩ := range_at hd
  unfold lkB at he
  rw [List.map_map, List.getElem?_map, List.getElem?_range hi] at he
  cases he
  have g1' := get_pD (getD_at (ps := ps) (i := i + 1) (by omega))
  have g2' := get_pD (getD_at (ps := ps) (i := i) (by omega))
  exact ⟨_, ev_f2 (ev_f2 (ev_f2 rfl rfl (ix_lst (j := i + 1) (by omega) g1')) rfl ix_t0) (ev_f2 (ev_f2 rfl (ev_f2 rfl rfl rfl) (ix_lst (j := i) (by omega) g2')) rfl ix_t1) (gEq_nD _ _), rfl⟩
theorem P_check_pieces (ps : List (Rat × Rat × List Rat)) (hn : ps.length ≤ 100) (hz : ∀ p ∈ ps, NB.Sz 4000 p.1 ∧ NB.Sz 4000 p.2.1) : F_check_pieces [.list (ps.map pD)] = if rowOk ps = true then okM (.val .none) else some (.err .NoPieces) := by
  by_cases c1 : (decide (ps.length = 0) || decide (8 < ps.length)) = true
  · rw [if_neg (by unfold rowOk; rw [c1]; simp)]
    refine ev_fnX rfl ?_
    show B_check_pieces [.dat (.list (ps.map pD))] = _
    unfold B_check_pieces
    exact ev_sifT (by rw [ck_len, c1]) (ev_seqX rfl)
  · have c1' := Bool.eq_false_iff.mpr c1
    by_cases c2 : (ltB ps).all id = true
    · have h1 : ps.length ≠ 0 := fun z => c1 (by rw [z]; rfl)
      by_cases c3 : (lkB ps).all id = true
      · rw [if_pos (by unfold rowOk; rw [c1', c2, c3]; rfl)]
        refine ev_fnN (δ' := [.dat (.list (ps.map pD))]) rfl ?_
        show B_check_pieces [.dat (.list (ps.map pD))] = _
        unfold B_check_pieces
        refine ev_sifF (by rw [ck_len, c1']) (ev_snext ?_)
        refine ev_sifF (ev_notF (by rw [ck_lt ps hn hz, c2])) (ev_snext ?_)
        exact ev_iF (ev_notF (by rw [ck_lk ps hn h1, c3])) rfl
      · have c3' := Bool.eq_false_iff.mpr c3
        rw [if_neg (by unfold rowOk; rw [c3']; simp)]
        refine ev_fnX rfl ?_
        show B_check_pieces [.dat (.list (ps.map pD))] = _
        unfold B_check_pieces
        refine ev_sifF (by rw [ck_len, c1']) (ev_snext ?_)
        refine ev_sifF (ev_notF (by rw [ck_lt ps hn hz, c2])) (ev_snext ?_)
        exact ev_iT (ev_notT (by rw [ck_lk ps hn h1, c3'])) rfl
    · have c2' := Bool.eq_false_iff.mpr c2
      rw [if_neg (by unfold rowOk; rw [c2']; simp)]
      refine ev_fnX rfl ?_
      show B_check_pieces [.dat (.list (ps.map pD))] = _
      unfold B_check_pieces
      refine ev_sifF (by rw [ck_len, c1']) (ev_snext ?_)
      exact ev_sifT (ev_notT (by rw [ck_lt ps hn hz, c2'])) (ev_seqX rfl)
theorem ck_gt (ps : List (Rat × Rat × List Rat)) (hn : ps.length ≤ 100) : fB (fCall (g1 (qOf anyB)) (fCons (fLC (fI itemsL (fVar 0)) fTrue (f2 (gI gGt) (f2 (gI D3.gSub) (fCall (g1 lenOf) (fCons (f2 gIx (fVar 0) (fC (.int 2))) fNil)) (fC (.int 1))) (fC (.int 6)))) fNil)) [.dat (.list (ps.map pD))] = okM ((gtB ps).any id) := by
  have sl : (sizeLine : Nat) = 16777216 := rfl
  refine ev_fB (ev_call (ecz (x := .new ((gtB ps).map PyData.bool)) ?_ rfl) (q_map _ _)) rfl
  unfold fLC
  rw [ev_fI (items := ps.map pD) rfl rfl, bnd_okM, if_pos (by rw [List.length_map]; omega), lc_any pD (fun p => PyData.bool (decide ((p.2.2.length : Int) - 1 > 6))) _ _ ps ?_]
  · unfold gtB
    rw [List.map_map]; rfl
  · intro p hp
    exact ⟨.dat (.bool (decide ((p.2.2.length : Int) - 1 > 6))), ev_f2 (ev_f2 (ev_call (ecz (ev_f2 rfl rfl (ix_tup (j := 2) rfl rfl)) rfl) (len_cD _)) rfl rfl) rfl rfl, rfl⟩
theorem P_row_of (ps : List (Rat × Rat × List Rat)) (hn : ps.length ≤ 100) (hz : ∀ p ∈ ps, NB.Sz 4000 p.1 ∧ NB.Sz 4000 p.2.1) (h : rowOk ps = true) (hg : (gtB ps).any id = false) : F_row_of [.list (ps.map pD)] = okM (.val (.tuple (ps.map pD))) := by
  refine ev_fn rfl ?_
  show B_row_of [.dat (.list (ps.map pD))] = _
  unfold B_row_of
  refine ev_seq (ev_drop (ev_call rfl (ev_gF rfl rfl (by rw [P_check_pieces ps hn hz, if_pos h]) rfl))) ?_
  refine ev_sifF (by rw [ck_gt ps hn, hg]) (ev_snext ?_)
  exact ev_ret (ev_call rfl rfl) rfl
theorem Cn.z {p : Rat × Rat × List Rat} (h : Cn p) : NB.Sz 4000 p.1 ∧ NB.Sz 4000 p.2.1 := ⟨(h.2.1.sz (by decide)).mono (by decide), (h.2.2.1.sz (by decide)).mono (by decide)⟩
theorem row_ok (ps : List (Rat × Rat × List Rat)) (h0 : ps.length ≠ 0) (h8 : ps.length ≤ 8) (hl : ∀ p ∈ ps, p.1 < p.2.1) (hk : ∀ j p p', ps[j]? = some p → ps[j + 1]? = some p' → p'.1 = p.2.1) : rowOk ps = true := by
  unfold rowOk
  rw [decide_eq_false h0, decide_eq_false (by omega : ¬ 8 < ps.length)]
  have e1 : (ltB ps).all id = true := by
    unfold ltB
    rw [List.all_map, List.all_eq_true]
    intro p hp
    exact decide_eq_true (hl p hp)
  have e2 : (lkB ps).all id = true := by
    unfold lkB
    rw [List.all_map, List.all_eq_true]
    intro i hi
    rw [List.mem_range] at hi
    exact decide_eq_true (hk i _ _ (getD_at (by omega)) (getD_at (by omega)))
  rw [e1, e2]; rfl
theorem no_gt (ps : List (Rat × Rat × List Rat)) (h : ∀ p ∈ ps, p.2.2.length ≤ 7) : (gtB ps).any id = false := by
  unfold gtB
  rw [List.any_map, List.any_eq_false]
  intro p hp
  have := h p hp
  simp only [Function.comp, id, decide_eq_true_eq]
  omega
theorem outZ_row (ps : List (Rat × Rat × List Rat)) : outZ (.val (.tuple (ps.map pD))) = .dat (.tuple (ps.map pD)) := by
  unfold outZ
  dsimp only
  rw [if_pos (by unfold noL; exact noLs_pD ps)]
theorem P_smoothness (E Q : Int) (e : Nat) (ps : List (Rat × Rat × List Rat)) (ss : List PyData) (hn : ps.length ≤ 100) (hs : ss.length + 1 = ps.length) (hE : E ≠ 0) (bE : E.natAbs < 2 ^ e) (he : e ≤ 80) (hQ : Q ≠ 0) (hS : ∀ s ∈ ss, Ss s) (hz : ∀ p ∈ ps, p.2.2.length ≤ 13 ∧ ∀ v ∈ p.2.2, NB.Sz 1900 v) (hu : ∀ p ∈ ps, ∃ u : Int, p.1 * (Q : Rat) = (u : Rat) ∧ Q.natAbs + u.natAbs ≤ 2 ^ 13)
    (hJ : ∀ j p p' s, ps[j]? = some p → ps[j + 1]? = some p' → ss[j]? = some s → Jn E e p.2.2 p'.1 p'.2.2 s) : F_smoothness [.tuple (ps.map pD)] = okM (.fresh ss) := by
  have sl : (sizeLine : Nat) = 16777216 := rfl
  refine ev_fn rfl ?_
  show B_smoothness [.dat (.tuple (ps.map pD))] = _
  unfold B_smoothness
  refine ev_ret (x := .new ss) ?_ (by unfold outOf; dsimp only; rw [if_pos (Ss.nos hS)])
  unfold fLC
  rw [ev_rng2 (m := ps.length - 1) (ecz rfl (ecz (ev_call rfl (len_rowt ps)) rfl)) (by omega) (by omega) (by omega) (by omega), bnd_okM, if_pos (by rw [range_len]; omega), lc_at _ _ (rangeL 1 (ps.length - 1)) ss (by rw [range_len]; omega) ?_]
  intro i d s hd hs'
  obtain ⟨hi, rfl⟩ := range_at hd
  have g0 := getD_at (ps := ps) (i := i) (by omega)
  have g1' := getD_at (ps := ps) (i := i + 1) (by omega)
  obtain ⟨p, hp⟩ : ∃ p, p = ps.getD i (0, 0, []) := ⟨_, rfl⟩
  obtain ⟨p', hp'⟩ : ∃ p, p = ps.getD (i + 1) (0, 0, []) := ⟨_, rfl⟩
  rw [← hp] at g0
  rw [← hp'] at g1'
  have m0 := List.mem_of_getElem? g0
  have m1 := List.mem_of_getElem? g1'
  obtain ⟨u, u1, u2⟩ := hu p' m1
  have hsm := P_smooth_at E Q u e p.2.2 p'.2.2 p'.1 s (hz p m0).2 (hz p' m1).2 (hz p m0).1 (hz p' m1).1 hE bE he hQ u1 u2 (hJ i p p' s g0 g1' hs')
  have ho : outZ (.val s) = .dat s := by
    unfold outZ
    dsimp only
    rw [if_pos (hS s (List.mem_of_getElem? hs')).no]
  exact ⟨.dat s, ev_call (ecz (ev_f2 (ev_f2 rfl (ev_f2 rfl rfl rfl) (ix_tup (j := i) (by omega) (get_pD g0))) rfl (ix_tup (j := 2) rfl rfl)) (ecz (ev_f2 (ev_f2 rfl rfl (ix_tup (j := i + 1) (by omega) (get_pD g1'))) rfl (ix_tup (j := 2) rfl rfl)) (ecz (ev_f2 (ev_f2 rfl rfl (ix_tup (j := i + 1) (by omega) (get_pD g1'))) rfl ix_t0) rfl))) (ev_gF rfl rfl hsm ho), rfl⟩
theorem lay_ss : ∀ {ss : List PyData}, (∀ s ∈ ss, Ss s) → PyData.canLayAll0 ss = true
  | [], _ => by simp [PyData.canLayAll0]
  | s :: r, h => by
    have h1 : PyData.canLay0 s = true := by rcases h s (List.mem_cons_self ..) with rfl | ⟨i, rfl⟩ <;> simp [PyData.canLay0]
    simp only [PyData.canLayAll0, h1, lay_ss fun s hs => h s (List.mem_cons_of_mem _ hs), Bool.and_self]
theorem dep_ss : ∀ {ss : List PyData}, (∀ s ∈ ss, Ss s) → PyData.depthAll ss ≤ 2
  | [], _ => by simp [PyData.depthAll]
  | s :: r, h => by
    have h1 : PyData.depth s ≤ 2 := by rcases h s (List.mem_cons_self ..) with rfl | ⟨i, rfl⟩ <;> simp [PyData.depth]
    have h2 := dep_ss fun s hs => h s (List.mem_cons_of_mem _ hs)
    simp only [PyData.depthAll]
    omega
theorem okD_ss {ss : List PyData} (h : ∀ s ∈ ss, Ss s) : okD (.list ss) = true := by
  have h1 := dep_ss h
  unfold okD SeqAt.shaped
  have e : ∀ n : Nat, n ≤ 64 → decide (n ≤ 64) = true := fun n h => decide_eq_true h
  simp only [PyData.canLay0, lay_ss h, PyData.depth, Bool.true_and]
  exact e _ (by omega)
theorem eqv_ss : ∀ {ss : List PyData}, (∀ s ∈ ss, Ss s) → PyData.eqvAll ss ss = true
  | [], _ => by simp [PyData.eqvAll]
  | s :: r, h => by
    have h1 : PyData.eqv s s = true := by rcases h s (List.mem_cons_self ..) with rfl | ⟨i, rfl⟩ <;> simp [PyData.eqv]
    simp only [PyData.eqvAll, h1, eqv_ss fun s hs => h s (List.mem_cons_of_mem _ hs), Bool.and_self]
theorem eqv_sl {ss : List PyData} (h : ∀ s ∈ ss, Ss s) : PyData.eqv (.list ss) (.list ss) = true := by simp only [PyData.eqv]; exact eqv_ss h
def mvp (c : Rat) (p : Rat × Rat × List Rat) : Rat × Rat × List Rat := (p.1 + c, p.2.1 + c, mvs c p.2.2 p.2.2.length)
theorem DzD {Q : Int} (hQ : Q.natAbs ≤ 16) (e : Nat) : (D0 * Q ^ e).natAbs < 2 ^ (30 + 4 * e) := by
  rw [Int.natAbs_mul, Int.natAbs_pow, Nat.pow_add, Nat.pow_mul]
  have h1 : Q.natAbs ^ e ≤ 16 ^ e := Nat.pow_le_pow_left hQ e
  have h2 : 0 < 16 ^ e := Nat.pow_pos (by decide)
  have e16 : (2 : Nat) ^ 4 = 16 := rfl
  rw [e16]
  exact Nat.lt_of_le_of_lt (Nat.mul_le_mul_left _ h1) (Nat.mul_lt_mul_of_pos_right D0_lt h2)
theorem mv_row {Q u : Int} {c : Rat} (hc : c * (Q : Rat) = (u : Rat)) (hb : Q.natAbs + u.natAbs ≤ 64) (hQ : Q.natAbs ≤ 16) (h0 : Q ≠ 0) (zc : NB.Sz 6 c) (l : List Rat) (h : l.length ≤ 7) (hl : ∀ q ∈ l, Gz D0 150 q) :
    F_moved [cD l, nD c] = okM (.val (cD (mvs c l l.length))) ∧ (∀ v ∈ mvs c l l.length, NB.Sz 720 v) := by
  refine ⟨P_moved l c (by omega) (fun d hd k q hq => ?_) zc, fun v hv => ?_⟩
  · have h1 := hsp_gz hc hb k (mvs c l d) (by rw [mvs_len]; omega) (mvs_gz hc hb l (by omega) hl d) q hq
    rw [Int.mul_assoc, ← Int.pow_add] at h1
    exact (h1.mono (n := 3000) (by omega)).sz (Int.mul_ne_zero D0_nz (Int.pow_ne_zero h0)) (Nat.lt_of_lt_of_le (DzD hQ _) (Nat.pow_le_pow_right (by decide) (by omega)))
  · have h1 := mvs_gz hc hb l (by omega) hl l.length v hv
    exact (h1.mono (n := 720) (by omega)).sz (Int.mul_ne_zero D0_nz (Int.pow_ne_zero h0)) (Nat.lt_of_lt_of_le (DzD hQ _) (Nat.pow_le_pow_right (by decide) (by omega)))
theorem P_row_moved {Q u : Int} {c : Rat} (hc : c * (Q : Rat) = (u : Rat)) (hb : Q.natAbs + u.natAbs ≤ 64) (hQ : Q.natAbs ≤ 16) (h0 : Q ≠ 0) (zc : NB.Sz 6 c) (ps : List (Rat × Rat × List Rat)) (hn : ps.length ≤ 100) (hp : ∀ p ∈ ps, Cn p) :
    F_row_moved [.tuple (ps.map pD), nD c] = okM (.val (.tuple ((ps.map (mvp c)).map pD))) := by
  have sl : (sizeLine : Nat) = 16777216 := rfl
  refine ev_fn rfl ?_
  show B_row_moved [.dat (.tuple (ps.map pD)), .dat (nD c)] = _
  unfold B_row_moved
  refine ev_ret (ev_call (ecz (x := .new ((ps.map (mvp c)).map pD)) ?_ rfl) rfl) rfl
  unfold fLC
  rw [ev_fI (items := ps.map pD) rfl rfl, bnd_okM, if_pos (by rw [List.length_map]; omega), lc_any pD (fun p => pD (mvp c p)) _ _ ps ?_]
  · rw [List.map_map]; rfl
  · intro p hm
    have h := hp p hm
    have z := h.z
    exact ⟨.dat (pD (mvp c p)), ev_call (ecz (ev_call (ecz (ev_f2 rfl rfl ix_t0) (ecz rfl rfl)) (ev_gF rfl rfl (P_plus p.1 c z.1 (zc.mono (by decide))) (outZ_num _))) (ecz (ev_call (ecz (ev_f2 rfl rfl ix_t1) (ecz rfl rfl)) (ev_gF rfl rfl (P_plus p.2.1 c z.2 (zc.mono (by decide))) (outZ_num _))) (ecz (ev_call (ecz (ev_f2 rfl rfl (ix_tup (j := 2) rfl rfl)) (ecz rfl rfl)) (ev_gF rfl rfl (mv_row hc hb hQ h0 zc p.2.2 h.2.2.2.1 h.2.2.2.2.2).1 (outZ_cur _))) rfl))) rfl, rfl⟩
theorem Jn.moved {E : Int} {e : Nat} {l l' : List Rat} {h : Rat} {s : PyData} (c : Rat) (J : Jn E e l h l' s) : Jn E e (mvs c l l.length) (h + c) (mvs c l' l'.length) s := by
  rcases J with ⟨rfl, rfl⟩ | ⟨m, a, ha, hm, ga, rfl, hev⟩
  · exact .inl ⟨rfl, rfl⟩
  · refine .inr ⟨m, a, ha, hm, ga, rfl, fun x => ?_⟩
    rw [mv_ev, mv_ev, hev]
    have : x - c - h = x - (h + c) := by grind
    rw [this]
abbrev Pc := Rat × Rat × List Rat
theorem snoc_ind {α : Type} {P : List α → Prop} (h0 : P []) (h1 : ∀ l a, P l → P (l ++ [a])) (l : List α) : P l := by
  have : ∀ r : List α, P r.reverse := fun r => by
    induction r with
    | nil => exact h0
    | cons a r ih => rw [List.reverse_cons]; exact h1 _ _ ih
  have h := this l.reverse
  rwa [List.reverse_reverse] at h
theorem snoc_cases {α : Type} (l : List α) : l = [] ∨ ∃ r a, l = r ++ [a] := by
  refine snoc_ind (P := fun l => l = [] ∨ ∃ r a, l = r ++ [a]) (.inl rfl) (fun l a _ => .inr ⟨l, a, rfl⟩) l
def plS (acc : List Pc) (p : Pc) : List Pc :=
  match acc.getLast? with
  | some q => if q.2.2 = p.2.2 then acc.dropLast ++ [(q.1, p.2.1, p.2.2)] else acc ++ [p]
  | none => acc ++ [p]
theorem plS_nil (p : Pc) : plS [] p = [p] := rfl
theorem plS_eq {r : List Pc} {q p : Pc} (h : q.2.2 = p.2.2) : plS (r ++ [q]) p = r ++ [(q.1, p.2.1, p.2.2)] := by
  unfold plS; rw [List.getLast?_concat]; dsimp only; rw [if_pos h, List.dropLast_concat]
theorem plS_ne {r : List Pc} {q p : Pc} (h : q.2.2 ≠ p.2.2) : plS (r ++ [q]) p = r ++ [q] ++ [p] := by
  unfold plS; rw [List.getLast?_concat]; dsimp only; rw [if_neg h]
def pln (ps : List Pc) : List Pc := ps.foldl plS []
theorem pln_snoc (ps : List Pc) (p : Pc) : pln (ps ++ [p]) = plS (pln ps) p := by unfold pln; rw [List.foldl_append]; rfl
theorem pln_len (ps : List Pc) : (pln ps).length ≤ ps.length := by
  refine snoc_ind (P := fun ps => (pln ps).length ≤ ps.length) (Nat.le_refl _) (fun ps p ih => ?_) ps
  rw [pln_snoc, List.length_append, List.length_singleton]
  rcases snoc_cases (pln ps) with e | ⟨r, q, e⟩
  · rw [e, plS_nil]; simp
  · rw [e] at ih ⊢
    rw [List.length_append, List.length_singleton] at ih
    by_cases c : q.2.2 = p.2.2
    · rw [plS_eq c]; simp; omega
    · rw [plS_ne c]; simp; omega
theorem pln_mem (ps : List Pc) : ∀ q ∈ pln ps, (∃ p ∈ ps, q.1 = p.1) ∧ (∃ p ∈ ps, q.2 = p.2) := by
  refine snoc_ind (P := fun ps => ∀ q ∈ pln ps, (∃ p ∈ ps, q.1 = p.1) ∧ (∃ p ∈ ps, q.2 = p.2)) (fun q h => nomatch h) (fun ps p ih => ?_) ps
  have up : ∀ q : Pc, ((∃ p ∈ ps, q.1 = p.1) ∧ (∃ p ∈ ps, q.2 = p.2)) → (∃ x ∈ ps ++ [p], q.1 = x.1) ∧ (∃ x ∈ ps ++ [p], q.2 = x.2) := fun q ⟨⟨a, ha, e⟩, ⟨b, hb, f⟩⟩ => ⟨⟨a, List.mem_append_left _ ha, e⟩, ⟨b, List.mem_append_left _ hb, f⟩⟩
  have new : (∃ x ∈ ps ++ [p], p.1 = x.1) ∧ (∃ x ∈ ps ++ [p], p.2 = x.2) := ⟨⟨p, List.mem_append_right _ (.head _), rfl⟩, ⟨p, List.mem_append_right _ (.head _), rfl⟩⟩
  rw [pln_snoc]
  rcases snoc_cases (pln ps) with e | ⟨r, q, e⟩
  · rw [e, plS_nil]
    intro x hx
    rw [List.mem_singleton] at hx; subst hx; exact new
  · rw [e] at ih ⊢
    by_cases c : q.2.2 = p.2.2
    · rw [plS_eq c]
      intro x hx
      rcases List.mem_append.mp hx with hx | hx
      · exact up x (ih x (List.mem_append_left _ hx))
      · rw [List.mem_singleton] at hx
        subst hx
        exact ⟨(up q (ih q (List.mem_append_right _ (.head _)))).1, new.2⟩
    · rw [plS_ne c]
      intro x hx
      rcases List.mem_append.mp hx with hx | hx
      · exact up x (ih x hx)
      · rw [List.mem_singleton] at hx; subst hx; exact new
theorem pln_last (ps : List Pc) : (pln ps).getLast?.map (fun q => q.2) = ps.getLast?.map (fun q => q.2) := by
  rcases snoc_cases ps with rfl | ⟨r, p, rfl⟩
  · rfl
  · rw [pln_snoc, List.getLast?_concat]
    rcases snoc_cases (pln r) with e | ⟨s, q, e⟩
    · rw [e, plS_nil]; rfl
    · rw [e]
      by_cases c : q.2.2 = p.2.2
      · rw [plS_eq c, List.getLast?_concat]; rfl
      · rw [plS_ne c, List.getLast?_concat]
theorem pln_head (ps : List Pc) : (pln ps).head?.map (fun q => q.1) = ps.head?.map (fun q => q.1) := by
  refine snoc_ind (P := fun ps => (pln ps).head?.map (fun q => q.1) = ps.head?.map (fun q => q.1)) rfl (fun ps p ih => ?_) ps
  rw [pln_snoc]
  rcases snoc_cases (pln ps) with e | ⟨r, q, e⟩
  · rw [e] at ih ⊢
    rw [plS_nil]
    cases ps with
    | nil => rfl
    | cons a t => cases ih
  · rw [e] at ih ⊢
    have h2 : (ps ++ [p]).head?.map (fun q : Pc => q.1) = ps.head?.map (fun q : Pc => q.1) := by
      cases ps with
      | nil => cases r <;> cases ih
      | cons a t => rfl
    rw [h2, ← ih]
    by_cases c : q.2.2 = p.2.2
    · rw [plS_eq c]; cases r <;> rfl
    · rw [plS_ne c]; cases r <;> rfl
def dif : List Pc → Prop := fun l => ∀ r q p s, l = r ++ [q] ++ [p] ++ s → q.2.2 ≠ p.2.2
theorem dif_pre {l s : List Pc} (h : dif (l ++ s)) : dif l := fun r q p t e => h r q p (t ++ s) (by rw [e]; simp)
theorem pln_of_dif (l : List Pc) : dif l → pln l = l := by
  refine snoc_ind (P := fun l => dif l → pln l = l) (fun _ => rfl) (fun l p ih h => ?_) l
  rw [pln_snoc, ih (dif_pre h)]
  rcases snoc_cases l with rfl | ⟨r, q, rfl⟩
  · rfl
  · exact plS_ne (h r q p [] (by simp))
theorem snoc_inj {α : Type} {a b : List α} {x y : α} (h : a ++ [x] = b ++ [y]) : a = b ∧ x = y := by
  have := List.append_inj' h rfl
  exact ⟨this.1, by simpa using this.2⟩
theorem dif_snoc {l : List Pc} {p : Pc} (h : dif l) (hn : ∀ r q, l = r ++ [q] → q.2.2 ≠ p.2.2) : dif (l ++ [p]) := fun r q x s e => by
  rcases snoc_cases s with rfl | ⟨s', y, rfl⟩
  · rw [List.append_nil] at e
    obtain ⟨e1, rfl⟩ := snoc_inj e
    exact hn r q e1
  · rw [← List.append_assoc] at e
    obtain ⟨e1, _⟩ := snoc_inj e
    exact h r q x s' e1
theorem dif_last {l : List Pc} {q q' : Pc} (h : dif (l ++ [q])) (e : q'.2.2 = q.2.2) : dif (l ++ [q']) := by
  refine dif_snoc (dif_pre h) fun r x hx => ?_
  rw [e]
  exact h r x q [] (by rw [← hx]; simp)
theorem pln_dif (ps : List Pc) : dif (pln ps) := by
  refine snoc_ind (P := fun ps => dif (pln ps)) (fun r q p s e => by have := congrArg List.length e; simp [pln] at this) (fun ps p ih => ?_) ps
  rw [pln_snoc]
  rcases snoc_cases (pln ps) with e | ⟨r, q, e⟩
  · rw [e, plS_nil]
    exact dif_snoc (l := []) (fun r q p s e => by have := congrArg List.length e; simp at this) (fun r q e => by have := congrArg List.length e; simp at this)
  · rw [e] at ih ⊢
    by_cases c : q.2.2 = p.2.2
    · rw [plS_eq c]; exact dif_last ih c.symm
    · rw [plS_ne c]
      refine dif_snoc ih fun r' x hx => ?_
      obtain ⟨_, rfl⟩ := snoc_inj hx
      exact c
theorem pln_pln (ps : List Pc) : pln (pln ps) = pln ps := pln_of_dif _ (pln_dif ps)
def cvx (ps : List Pc) (x : Rat) : Option (List Rat) := (ps.filter fun p => decide (p.1 ≤ x)).getLast?.map (fun p => p.2.2)
theorem cvx_in {ps : List Pc} {p : Pc} {x : Rat} (h : p.1 ≤ x) : cvx (ps ++ [p]) x = some p.2.2 := by
  unfold cvx
  rw [List.filter_append]
  have : [p].filter (fun p => decide (p.1 ≤ x)) = [p] := by simp [h]
  rw [this, List.getLast?_concat]; rfl
theorem cvx_out {ps : List Pc} {p : Pc} {x : Rat} (h : ¬ p.1 ≤ x) : cvx (ps ++ [p]) x = cvx ps x := by
  unfold cvx
  rw [List.filter_append]
  have : [p].filter (fun p => decide (p.1 ≤ x)) = [] := by simp [h]
  rw [this, List.append_nil]
def rise : List Pc → Prop := fun l => ∀ r p, (∃ s, l = r ++ [p] ++ s) → ∀ q ∈ r, q.1 < p.1
theorem rise_pre {l s : List Pc} (h : rise (l ++ s)) : rise l := fun r p ⟨t, e⟩ => h r p ⟨t ++ s, by rw [e]; simp⟩
theorem cvx_pln (x : Rat) (ps : List Pc) : rise ps → cvx (pln ps) x = cvx ps x := by
  refine snoc_ind (P := fun ps => rise ps → cvx (pln ps) x = cvx ps x) (fun _ => rfl) (fun ps p ih hr => ?_) ps
  have ih := ih (rise_pre hr)
  have hlt := hr ps p ⟨[], by simp⟩
  rw [pln_snoc]
  by_cases c : p.1 ≤ x
  · rw [cvx_in c]
    rcases snoc_cases (pln ps) with e | ⟨r, q, e⟩
    · rw [e, plS_nil]; exact cvx_in (ps := []) c
    · rw [e]
      have hq : q.1 ≤ x := by
        obtain ⟨⟨a, ha, e1⟩, _⟩ := pln_mem ps q (by rw [e]; exact List.mem_append_right _ (.head _))
        have := hlt a ha
        rw [e1]
        grind
      by_cases c2 : q.2.2 = p.2.2
      · rw [plS_eq c2]; exact cvx_in hq
      · rw [plS_ne c2]; exact cvx_in c
  · rw [cvx_out c, ← ih]
    rcases snoc_cases (pln ps) with e | ⟨r, q, e⟩
    · rw [e, plS_nil]; exact cvx_out (ps := []) c
    · rw [e]
      by_cases c2 : q.2.2 = p.2.2
      · rw [plS_eq c2]
        by_cases c3 : q.1 ≤ x
        · rw [cvx_in c3, cvx_in (show ((q.1, p.2.1, p.2.2) : Pc).1 ≤ x from c3), c2]
        · rw [cvx_out c3, cvx_out (show ¬ ((q.1, p.2.1, p.2.2) : Pc).1 ≤ x from c3)]
      · rw [plS_ne c2]; exact cvx_out c
theorem row_rise {ps : List Pc} (h1 : ∀ p ∈ ps, p.1 < p.2.1) (h2 : ∀ j p p', ps[j]? = some p → ps[j + 1]? = some p' → p'.1 = p.2.1) : ∀ (n : Nat) (i : Nat) (p q : Pc), ps[i]? = some p → ps[i + n + 1]? = some q → p.1 < q.1 ∧ p.2.1 ≤ q.1
  | 0, i, p, q, hp, hq => by
    have e := h2 i p q hp hq
    have := h1 p (List.mem_of_getElem? hp)
    rw [e]; exact ⟨this, Rat.le_refl⟩
  | n + 1, i, p, q, hp, hq => by
    have hl : i + n + 1 < ps.length := by
      have := (List.getElem?_eq_some_iff.mp hq).1
      omega
    obtain ⟨m, hm⟩ : ∃ m, ps[i + n + 1]? = some m := ⟨_, List.getElem?_eq_getElem hl⟩
    obtain ⟨a, b⟩ := row_rise h1 h2 n i p m hp hm
    have e := h2 (i + n + 1) m q hm (by rw [← hq]; congr 1)
    have := h1 m (List.mem_of_getElem? hm)
    rw [e]
    exact ⟨by grind, by grind⟩
theorem row_rise' {ps : List Pc} (h1 : ∀ p ∈ ps, p.1 < p.2.1) (h2 : ∀ j p p', ps[j]? = some p → ps[j + 1]? = some p' → p'.1 = p.2.1) : rise ps := by
  rintro r p ⟨s, rfl⟩ q hq
  obtain ⟨i, hi, e⟩ := List.getElem_of_mem hq
  have e1 : (r ++ [p] ++ s)[i]? = some q := by rw [List.append_assoc, List.getElem?_append_left hi, List.getElem?_eq_getElem hi, e]
  have e2 : (r ++ [p] ++ s)[i + (r.length - 1 - i) + 1]? = some p := by
    have : i + (r.length - 1 - i) + 1 = r.length := by omega
    rw [this, List.append_assoc, List.getElem?_append_right (Nat.le_refl _), Nat.sub_self]; rfl
  exact (row_rise h1 h2 _ _ _ _ e1 e2).1
theorem rise_cvx {r s : List Pc} {p : Pc} (h : ∀ q ∈ s, p.1 < q.1) : cvx (r ++ [p] ++ s) p.1 = some p.2.2 := by
  have : ∀ s : List Pc, (∀ q ∈ s, p.1 < q.1) → cvx (r ++ [p] ++ s) p.1 = some p.2.2 := fun s => by
    refine snoc_ind (P := fun s => (∀ q ∈ s, p.1 < q.1) → cvx (r ++ [p] ++ s) p.1 = some p.2.2) (fun _ => by rw [List.append_nil]; exact cvx_in Rat.le_refl) (fun s a ih h => ?_) s
    rw [← List.append_assoc, cvx_out (by have := h a (List.mem_append_right _ (.head _)); grind)]
    exact ih fun q hq => h q (List.mem_append_left _ hq)
  exact this s h
theorem pD_ok (p : Pc) : PyData.canLay0 (pD p) = true ∧ PyData.depth (pD p) ≤ 6 := by
  have h1 : PyData.canLay0 (cD p.2.2) = true := by unfold cD; simp only [PyData.canLay0]; exact lay_nums _
  have h2 : PyData.depth (cD p.2.2) ≤ 4 := by
    have := dep_nums p.2.2
    unfold cD; simp only [PyData.depth]; omega
  have a1 := dep_num p.1
  have a2 := dep_num p.2.1
  unfold pD
  refine ⟨?_, ?_⟩
  · simp only [PyData.canLay0, PyData.canLayAll0, lay_num, h1, Bool.and_self]
  · simp only [PyData.depth, PyData.depthAll]; omega
theorem lay_rows : ∀ l : List Pc, PyData.canLayAll0 (l.map pD) = true ∧ PyData.depthAll (l.map pD) ≤ 6
  | [] => ⟨by simp [PyData.canLayAll0], by simp [PyData.depthAll]⟩
  | p :: r => by
    obtain ⟨a, b⟩ := lay_rows r
    obtain ⟨c, d⟩ := pD_ok p
    rw [List.map_cons]
    exact ⟨by simp only [PyData.canLayAll0, a, c, Bool.and_self], by simp only [PyData.depthAll]; omega⟩
theorem okD_row (l : List Pc) : okD (.tuple (l.map pD)) = true := by
  obtain ⟨a, b⟩ := lay_rows l
  unfold okD SeqAt.shaped
  have e : ∀ n : Nat, n ≤ 64 → decide (n ≤ 64) = true := fun n h => decide_eq_true h
  simp only [PyData.canLay0, a, PyData.depth, Bool.true_and]
  exact e _ (by omega)
theorem okD_rowL (l : List Pc) : okD (.list (l.map pD)) = true := by
  obtain ⟨a, b⟩ := lay_rows l
  unfold okD SeqAt.shaped
  have e : ∀ n : Nat, n ≤ 64 → decide (n ≤ 64) = true := fun n h => decide_eq_true h
  simp only [PyData.canLay0, a, PyData.depth, Bool.true_and]
  exact e _ (by omega)
theorem eqv_pD (p : Pc) : PyData.eqv (pD p) (pD p) = true := by
  unfold pD
  simp only [PyData.eqv, PyData.eqvAll]
  rw [eqv_num, eqv_num, eqv_cD]
  simp
theorem eqv_rows : ∀ l : List Pc, PyData.eqvAll (l.map pD) (l.map pD) = true
  | [] => by simp [PyData.eqvAll]
  | p :: r => by rw [List.map_cons]; simp only [PyData.eqvAll, eqv_pD, eqv_rows r, Bool.and_self]
theorem ne_row (l : List Pc) {x : Rz} (hx : x.d? = some (.tuple (l.map pD))) : gEq true x (.dat (.tuple (l.map pD))) = okM (.dat (.bool false)) := gNeD (b := false) hx rfl (okD_row l) (okD_row l) (by simp only [PyData.eqv]; exact eqv_rows l)
theorem ne_nil (l : List Pc) : gEq true (.var (l.map pD)) (.new []) = okM (.dat (.bool (!decide (l = [])))) := by
  refine gNeD rfl rfl (okD_rowL l) (okD_rowL []) ?_
  cases l with
  | nil => simp [PyData.eqv, PyData.eqvAll]
  | cons p r => rw [List.map_cons]; simp [PyData.eqv, PyData.eqvAll]
theorem ixN_last (n : Nat) : L2.ixN (n + 1) (-1) = some n := by
  unfold L2.ixN
  rw [if_neg (by omega), if_pos (by omega)]
  congr 1
  omega
theorem atI_last {α : Type} (r : List α) (a : α) : L2.atI (r ++ [a]) (-1) = some a := by
  unfold L2.atI
  rw [List.length_append, List.length_singleton, ixN_last]
  show (r ++ [a])[r.length]? = some a
  rw [List.getElem?_append_right (Nat.le_refl _), Nat.sub_self]; rfl
theorem take_snoc {α : Type} {l : List α} {i : Nat} {a : α} (h : l[i]? = some a) : l.take (i + 1) = l.take i ++ [a] := by rw [List.take_succ, h]; rfl
theorem get_map {ps : List Pc} {i : Nat} {d : PyData} (h : (ps.map pD)[i]? = some d) : ∃ p, ps[i]? = some p ∧ d = pD p := by
  rw [List.getElem?_map, Option.map_eq_some_iff] at h
  obtain ⟨p, a, b⟩ := h
  exact ⟨p, a, b.symm⟩
theorem P_plainest (ps : List Pc) (hn : ps.length ≤ 100) : F_plainest [.tuple (ps.map pD)] = okM (.val (.tuple ((pln ps).map pD))) := by
  have sl : (sizeLine : Nat) = 16777216 := rfl
  refine ev_fn rfl ?_
  show B_plainest [.dat (.tuple (ps.map pD)), .no, .no] = _
  unfold B_plainest
  refine ev_sset (x := .new []) (ev_call rfl rfl) rfl (by walk_at "ss") ?_
  obtain ⟨δ', e, acc, r, rfl, ha⟩ := forN_inv (g := tName 2) (b := (fIfS (fAnd (fB (f2 (gI gGt) (fCall (g1 lenOf) (fCons (fVar 1) fNil)) (fC (.int 0)))) (fB (f2 (gEq false) (f2 gIx (f2 gIx (fVar 1) (fU negOf (fC (.int 1)))) (fC (.int 2))) (f2 gIx (fVar 2) (fC (.int 2)))))) (fPut 1 (fCall D3.gTup (fCons (f2 gIx (f2 gIx (fVar 1) (fU negOf (fC (.int 1)))) (fC (.int 0))) (fCons (f2 gIx (fVar 2) (fC (.int 1))) (fCons (f2 gIx (fVar 2) (fC (.int 2))) fNil)))) (fU negOf (fC (.int 1)))) (fApp 1 (fVar 2)))) (δ := [.dat (.tuple (ps.map pD)), .own [], .no])
    (fun i δ => ∃ (acc : List Pc) (r : Sl), δ = [.dat (.tuple (ps.map pD)), .own (acc.map pD), r] ∧ acc = pln (ps.take i)) (ps.map pD) ⟨[], .no, rfl, rfl⟩
    (by
      rintro i d δ hd ⟨acc, r, rfl, ha⟩
      obtain ⟨p, hp, rfl⟩ := get_map hd
      have hlen : acc.length ≤ 100 := by
        have h1 := pln_len (ps.take i)
        rw [List.length_take] at h1
        rw [ha]; omega
      have hs : pln (ps.take (i + 1)) = plS acc p := by rw [take_snoc hp, pln_snoc, ha]
      refine ⟨_, [.dat (.tuple (ps.map pD)), .own ((plS acc p).map pD), .dat (pD p)], rfl, .inl ?_, plS acc p, _, rfl, hs.symm⟩
      rcases snoc_cases acc with rfl | ⟨t, q, rfl⟩
      · exact ev_iF (ev_andF (ev_fB (ev_f2 (ev_call rfl rfl) rfl rfl) rfl)) (ev_app (d := pD p) rfl rfl rfl (by simp; omega) rfl)
      · have e1 : (f2 gIx (fVar 1) (fU negOf (fC (.int 1)))) [.dat (.tuple (ps.map pD)), .own ((t ++ [q]).map pD), .dat (pD p)] = okM (.dat (pD q)) := by
          refine ev_f2 rfl (ev_fU rfl rfl) (ix_at ?_)
          rw [List.map_append]; exact atI_last _ _
        have e2 : fB (f2 (gI gGt) (fCall (g1 lenOf) (fCons (fVar 1) fNil)) (fC (.int 0))) [.dat (.tuple (ps.map pD)), .own ((t ++ [q]).map pD), .dat (pD p)] = okM true := by
          refine ev_fB (ev_f2 (x := .dat (.int (((t ++ [q]).map pD).length : Int))) (ev_call rfl rfl) rfl rfl) ?_
          show okM (decide ((0 : Int) < (((t ++ [q]).map pD).length : Int))) = _
          rw [decide_eq_true (by rw [List.length_map, List.length_append, List.length_singleton]; omega)]
        have e3 : fB (f2 (gEq false) (f2 gIx (f2 gIx (fVar 1) (fU negOf (fC (.int 1)))) (fC (.int 2))) (f2 gIx (fVar 2) (fC (.int 2)))) [.dat (.tuple (ps.map pD)), .own ((t ++ [q]).map pD), .dat (pD p)] = okM (decide (q.2.2 = p.2.2)) :=
          ev_fB (ev_f2 (ev_f2 e1 rfl (ix_tup (j := 2) rfl rfl)) (ev_f2 rfl rfl (ix_tup (j := 2) rfl rfl)) (gEqD rfl rfl (okD_cD _) (okD_cD _) (eqv_cD _ _))) rfl
        by_cases c : q.2.2 = p.2.2
        · rw [plS_eq c]
          refine ev_iT (ev_andT e2 (by exact e3.trans (congrArg okM (decide_eq_true c)))) ?_
          refine ev_put (d := pD (q.1, p.2.1, p.2.2)) (ds := (t ++ [q]).map pD) (j := t.length) (y := .dat (.int (-1))) (i := -1) (ev_call (ecz (ev_f2 e1 rfl ix_t0) (ecz (ev_f2 rfl rfl ix_t1) (ecz (ev_f2 rfl rfl (ix_tup (j := 2) rfl rfl)) rfl))) rfl) rfl (ev_fU rfl rfl) rfl rfl (by rw [List.length_map, List.length_append, List.length_singleton]; exact ixN_last _) ?_
          have : ((t ++ [q]).map pD).set t.length (pD (q.1, p.2.1, p.2.2)) = (t ++ [(q.1, p.2.1, p.2.2)]).map pD := by
            rw [List.map_append, List.map_append, List.set_append_right _ _ (by simp)]
            simp
          rw [this]; rfl
        · rw [plS_ne c]
          refine ev_iF (ev_andT e2 (by exact e3.trans (congrArg okM (decide_eq_false c)))) ?_
          refine ev_app (d := pD p) (ds := (t ++ [q]).map pD) rfl rfl rfl (by rw [List.length_map]; omega) ?_
          rw [List.map_append (l₁ := t ++ [q])]; rfl)
  rw [List.length_map, List.take_length] at ha
  subst ha
  exact ev_seq (ev_for (ev_fI rfl rfl) e) (ev_ret (ev_call rfl rfl) rfl)
theorem L_plain (ps : List Pc) (hn : ps.length ≤ 100) : FL_plain [.list (ps.map pD)] = okM (.val (.tuple ((pln ps).map pD))) := by
  have sl : (sizeLine : Nat) = 16777216 := rfl
  refine ev_fn rfl ?_
  show BL_plain [.dat (.list (ps.map pD)), .no, .no, .no, .no] = _
  unfold BL_plain
  refine ev_sset (x := .new []) (ev_call rfl rfl) rfl (by walk_at "ss") ?_
  obtain ⟨δ', e, acc, r2, r3, r4, rfl, ha⟩ := forN_inv (g := (tTupT (tsCons (tName 2) (tsCons (tName 3) (tsCons (tName 4) tsNil))) 3)) (b := (fSeq (fIfS (fAnd (fB (f2 (gEq true) (fVar 1) (fCall D3.gLst fNil))) (fB (f2 (gEq false) (f2 gIx (f2 gIx (fVar 1) (fU negOf (fC (.int 1)))) (fC (.int 2))) (fVar 4)))) (fPopIx 2 1 0) fNext)
    (fApp 1 (fCall D3.gTup (fCons (fVar 2) (fCons (fVar 3) (fCons (fVar 4) fNil))))))) (δ := [.dat (.list (ps.map pD)), .own [], .no, .no, .no])
    (fun i δ => ∃ (acc : List Pc) (r2 r3 r4 : Sl), δ = [.dat (.list (ps.map pD)), .own (acc.map pD), r2, r3, r4] ∧ acc = pln (ps.take i)) (ps.map pD) ⟨[], .no, .no, .no, rfl, rfl⟩
    (by
      rintro i d δ hd ⟨acc, r2, r3, r4, rfl, ha⟩
      obtain ⟨p, hp, rfl⟩ := get_map hd
      have hlen : acc.length ≤ 100 := by
        have h1 := pln_len (ps.take i)
        rw [List.length_take] at h1
        rw [ha]; omega
      have hs : pln (ps.take (i + 1)) = plS acc p := by rw [take_snoc hp, pln_snoc, ha]
      refine ⟨[.dat (.list (ps.map pD)), .own (acc.map pD), .dat (nD p.1), .dat (nD p.2.1), .dat (cD p.2.2)], ?_⟩
      rcases snoc_cases acc with rfl | ⟨t, q, rfl⟩
      · refine ⟨[.dat (.list (ps.map pD)), .own ([p].map pD), .dat (nD p.1), .dat (nD p.2.1), .dat (cD p.2.2)], rfl, .inl ?_, [p], _, _, _, rfl, hs.symm⟩
        refine ev_sifF (ev_andF (ev_fB (ev_f2 rfl (ev_call rfl rfl) (ne_nil [])) rfl)) (ev_snext ?_)
        exact ev_app (d := pD p) (ds := []) rfl (ev_call (ecz rfl (ecz rfl (ecz rfl rfl))) rfl) rfl (by simp; omega) rfl
      · have e1 : (f2 gIx (fVar 1) (fU negOf (fC (.int 1)))) [.dat (.list (ps.map pD)), .own ((t ++ [q]).map pD), .dat (nD p.1), .dat (nD p.2.1), .dat (cD p.2.2)] = okM (.dat (pD q)) := by
          refine ev_f2 rfl (ev_fU rfl rfl) (ix_at ?_)
          rw [List.map_append]; exact atI_last _ _
        have e2 : fB (f2 (gEq true) (fVar 1) (fCall gLst fNil)) [.dat (.list (ps.map pD)), .own ((t ++ [q]).map pD), .dat (nD p.1), .dat (nD p.2.1), .dat (cD p.2.2)] = okM true := by
          refine ev_fB (ev_f2 rfl (ev_call rfl rfl) (ne_nil (t ++ [q]))) ?_
          show okM (!decide (t ++ [q] = [])) = _
          rw [decide_eq_false (by simp)]; rfl
        have e3 : fB (f2 (gEq false) (f2 gIx (f2 gIx (fVar 1) (fU negOf (fC (.int 1)))) (fC (.int 2))) (fVar 4)) [.dat (.list (ps.map pD)), .own ((t ++ [q]).map pD), .dat (nD p.1), .dat (nD p.2.1), .dat (cD p.2.2)] = okM (decide (q.2.2 = p.2.2)) :=
          ev_fB (ev_f2 (ev_f2 e1 rfl (ix_tup (j := 2) rfl rfl)) rfl (gEqD rfl rfl (okD_cD _) (okD_cD _) (eqv_cD _ _))) rfl
        by_cases c : q.2.2 = p.2.2
        · refine ⟨[.dat (.list (ps.map pD)), .own ((plS (t ++ [q]) p).map pD), .dat (nD q.1), .dat (nD p.2.1), .dat (cD p.2.2)], rfl, .inl ?_, plS (t ++ [q]) p, _, _, _, rfl, hs.symm⟩
          rw [plS_eq c]
          refine ev_sifT (ev_andT e2 (by exact e3.trans (congrArg okM (decide_eq_true c)))) ?_
          refine ev_popIx (ds := (t ++ [q]).map pD) (es := [nD q.1, nD q.2.1, cD q.2.2]) (d := nD q.1) rfl (by rw [List.map_append]; exact List.getLast?_concat) rfl (δ' := [.dat (.list (ps.map pD)), .own (t.map pD), .dat (nD q.1), .dat (nD p.2.1), .dat (cD p.2.2)]) (by rw [List.map_append, show [q].map pD = [pD q] from rfl, List.dropLast_concat]; rfl) ?_
          refine ev_app (d := pD (q.1, p.2.1, p.2.2)) (ds := t.map pD) rfl (ev_call (ecz rfl (ecz rfl (ecz rfl rfl))) rfl) rfl (by rw [List.length_append] at hlen; rw [List.length_map]; omega) ?_
          rw [List.map_append]; rfl
        · refine ⟨[.dat (.list (ps.map pD)), .own ((plS (t ++ [q]) p).map pD), .dat (nD p.1), .dat (nD p.2.1), .dat (cD p.2.2)], rfl, .inl ?_, plS (t ++ [q]) p, _, _, _, rfl, hs.symm⟩
          rw [plS_ne c]
          refine ev_sifF (ev_andT e2 (by exact e3.trans (congrArg okM (decide_eq_false c)))) (ev_snext ?_)
          refine ev_app (d := pD p) (ds := (t ++ [q]).map pD) rfl (ev_call (ecz rfl (ecz rfl (ecz rfl rfl))) rfl) rfl (by rw [List.length_map]; omega) ?_
          rw [List.map_append (l₁ := t ++ [q])]; rfl)
  rw [List.length_map, List.take_length] at ha
  subst ha
  exact ev_seq (show fFrz 0 _ _ = _ from ev_for (ev_fI rfl rfl) e) (ev_ret (ev_call rfl rfl) rfl)
theorem lc_flt {α : Type} (mk : α → PyData) (t : α → Bool) (ft : List Sl → M Bool) (δ : List Sl) : ∀ (l : List α), (∀ p ∈ l, ft (.dat (mk p) :: δ) = okM (t p)) → lcN ft (fVar 0) δ (l.map mk) = some ((l.filter t).map mk)
  | [], _ => rfl
  | p :: r, h => by
    have ih := lc_flt mk t ft δ r fun q hq => h q (List.mem_cons_of_mem _ hq)
    have h1 := h p (List.mem_cons_self ..)
    rw [List.map_cons]
    unfold lcN
    rw [h1]
    cases e : t p with
    | true =>
      rw [List.filter_cons_of_pos e, List.map_cons]
      show (match datOf (Rz.dat (mk p)), lcN ft (fVar 0) δ (r.map mk) with | some e, some es => some (e :: es) | _, _ => none) = _
      rw [ih]; rfl
    | false => rw [List.filter_cons_of_neg (by simp [e])]; exact ih
theorem P_row_worth (q0 qz : Pc) (qs : List Pc) (x : Rat) (l : List Rat) (h0 : qs.head? = some q0) (hz : qs.getLast? = some qz) (hn : qs.length ≤ 100) (z : ∀ q ∈ qs, NB.Sz 4000 q.1 ∧ NB.Sz 4000 q.2.1) (zx : NB.Sz 12 x) (h1 : q0.1 ≤ x) (h2 : x ≤ qz.2.1) (hc : cvx qs x = some l) (hl : l.length ≤ 7) (zl : ∀ v ∈ l, NB.Sz 160 v) :
    F_row_worth [.tuple (qs.map pD), nD x] = okM (.val (nD (ev l x))) := by
  have sl : (sizeLine : Nat) = 16777216 := rfl
  refine ev_fn rfl ?_
  show B_row_worth [.dat (.tuple (qs.map pD)), .dat (nD x), .no] = _
  unfold B_row_worth
  have g0 : qs[0]? = some q0 := by rw [← h0]; cases qs <;> rfl
  obtain ⟨t, et⟩ : ∃ t, qs = t ++ [qz] := by
    rcases snoc_cases qs with rfl | ⟨t, a, rfl⟩
    · cases hz
    · rw [List.getLast?_concat] at hz; cases hz; exact ⟨t, rfl⟩
  have m0 := List.mem_of_getElem? g0
  have mz : qz ∈ qs := by rw [et]; exact List.mem_append_right _ (.head _)
  have zx' := zx.mono (n := 4000) (by decide)
  have i0 : gIx (.dat (.tuple (qs.map pD))) (.dat (.int 0)) = okM (.dat (pD q0)) := ix_tup (j := 0) rfl (get_pD g0)
  have iz : gIx (.dat (.tuple (qs.map pD))) (.dat (.int (-1))) = okM (.dat (pD qz)) := by
    unfold gIx seqOf Rz.d?; dsimp only
    rw [show L2.atI (qs.map pD) (-1) = some (pD qz) by rw [et, List.map_append]; exact atI_last _ _]; rfl
  refine ev_sifF (ev_orF (ev_fB (ev_call (ecz rfl (ecz (ev_f2 (ev_f2 rfl rfl i0) rfl ix_t0) rfl)) (ev_gF rfl rfl (P_less x q0.1 zx' (z q0 m0).1) rfl)) (by rw [decide_eq_false (by grind)]; rfl)) (ev_fB (ev_call (ecz (ev_f2 (ev_f2 rfl (ev_fU rfl rfl) iz) rfl ix_t1) (ecz rfl rfl)) (ev_gF rfl rfl (P_less qz.2.1 x (z qz mz).2 zx') rfl)) (by rw [decide_eq_false (by grind)]; rfl))) (ev_snext ?_)
  have hLC : (fLC (fI itemsT (fVar 0)) (fNot (fB (fCall (gF 2 F_less) (fCons (fVar 2) (fCons (f2 gIx (fVar 0) (fC (.int 0))) fNil))))) (fVar 0)) [.dat (.tuple (qs.map pD)), .dat (nD x), .no] = okM (.new ((qs.filter fun p => decide (p.1 ≤ x)).map pD)) := by
    unfold fLC
    rw [ev_fI (items := qs.map pD) rfl rfl, bnd_okM, if_pos (by rw [List.length_map]; omega), lc_flt pD (fun p => decide (p.1 ≤ x)) _ _ qs ?_]
    intro p hp
    refine (ev_not (ev_fB (ev_call (ecz rfl (ecz (ev_f2 rfl rfl ix_t0) rfl)) (ev_gF rfl rfl (P_less x p.1 zx' (z p hp).1) rfl)) rfl)).trans ?_
    congr 1
    by_cases c : p.1 ≤ x
    · rw [decide_eq_true c, decide_eq_false (by grind)]; rfl
    · rw [decide_eq_false c, decide_eq_true (by grind)]; rfl
  refine ev_sset hLC rfl (by walk_at "ss") ?_
  unfold cvx at hc
  obtain ⟨fl, hfl⟩ : ∃ fl, fl = qs.filter fun p => decide (p.1 ≤ x) := ⟨_, rfl⟩
  rw [← hfl] at hc ⊢
  rcases snoc_cases fl with rfl | ⟨u, a, rfl⟩
  · cases hc
  · rw [List.getLast?_concat] at hc
    have ea : a.2.2 = l := Option.some.inj hc
    refine ev_ret (ev_call (ecz (ev_f2 (x := .dat (pD a)) (ev_f2 rfl (ev_fU rfl rfl) (ix_at (by rw [List.map_append]; exact atI_last _ _))) rfl (ix_tup (j := 2) rfl rfl)) (ecz rfl rfl)) (ev_gF rfl rfl (P_worth 160 12 a.2.2 x zx (by rw [ea]; exact zl) (by rw [ea]; have := Nat.mul_le_mul_right (160 + 12 + 1) hl; omega) (by decide)) (outZ_num _))) ?_
    rw [ea]; rfl
theorem pow_nz {k : Rat} (h : k ≠ 0) (i : Nat) : k ^ i ≠ 0 := by
  induction i with
  | zero => rw [Rat.pow_zero]; decide
  | succ i ih => rw [Rat.pow_succ]; intro z; rcases Rat.mul_eq_zero.mp z with z | z; exact ih z; exact h z
theorem P_stretched (l : List Rat) (k : Rat) (k0 : k ≠ 0) (h13 : l.length ≤ 13) (hl : ∀ q ∈ l, NB.Sz 800 q) (zk : NB.Sz 4 k) : F_stretched [cD l, nD k] = okM (.val (cD (st k 1 l))) := by
  refine ev_fn rfl ?_
  show B_stretched [.dat (cD l), .dat (nD k), .no, .no, .no] = _
  unfold B_stretched
  have hc : fB (f2 (gEq false) (fCall (gF 1 F_sign) (fCons (fVar 1) fNil)) (fC (.int 0))) [.dat (cD l), .dat (nD k), .no, .no, .no] = okM (decide (k = 0)) := by
    rw [← sign_zero]; exact ev_fB (ev_f2 (ev_call rfl (ev_gF rfl rfl (P_sign k) rfl)) rfl (gEq_int _ _)) rfl
  refine ev_sifF (by rw [hc, decide_eq_false k0]) (ev_snext ?_)
  refine ev_sset (x := .new []) (ev_call rfl rfl) rfl (by walk_at "ss") ?_
  refine ev_sset rfl rfl (by walk_at "ss") ?_
  obtain ⟨δ', e, r, rfl⟩ := forN_inv (g := tName 4) (b := (fSeq (fApp 2 (fCall (gF 2 F_over) (fCons (fVar 4) (fCons (fVar 3) fNil))))
    (fSet 3 (fCall (gF 2 F_times) (fCons (fVar 3) (fCons (fVar 1) fNil)))))) (δ := [.dat (cD l), .dat (nD k), .own [], .dat (nD 1), .no])
    (fun i δ => ∃ r, δ = [.dat (cD l), .dat (nD k), .own ((st k 1 (l.take i)).map nD), .dat (nD (k ^ i)), r]) (l.map nD) ⟨.no, by rw [Rat.pow_zero]; rfl⟩
    (by
      rintro i d δ hd ⟨r, rfl⟩
      have hi : i < l.length := by
        by_cases c : i < l.length
        · exact c
        · rw [List.getElem?_eq_none (by simp; omega)] at hd; cases hd
      rw [get_nD (List.getElem?_eq_getElem hi)] at hd
      cases hd
      have zp := sz_pow zk i
      have zq := hl _ (List.getElem_mem hi)
      have lt : (l.take i).length = i := by rw [List.length_take]; omega
      have tk : l.take (i + 1) = l.take i ++ [l[i]] := by rw [List.take_succ, List.getElem?_eq_getElem hi]; rfl
      have es : st k 1 (l.take (i + 1)) = st k 1 (l.take i) ++ [l[i] / k ^ i] := by rw [tk, st_snoc, lt, Rat.one_mul]
      have sl : (sizeLine : Nat) = 16777216 := rfl
      refine ⟨_, _, rfl, .inl (ev_seq (ev_app (d := nD (l[i] / k ^ i)) rfl (ev_call (ecz rfl (ecz rfl rfl)) (ev_gF rfl rfl (P_over _ _ (zq.mono (by decide)) (zp.mono (by omega)) (pow_nz k0 i)) (outZ_num _))) rfl (by rw [List.length_map, st_len, lt]; omega) rfl) (ev_set (ev_call (ecz rfl (ecz rfl rfl)) (ev_gF rfl rfl (P_times _ _ (zp.mono (by omega)) (zk.mono (by decide))) (outZ_num _))) rfl rfl)), .dat (nD l[i]), ?_⟩
      rw [es, List.map_append, Rat.pow_succ]; rfl)
  rw [List.length_map, List.take_length] at e
  exact ev_seq (ev_for (ev_fI rfl rfl) e) (ev_ret (ev_call rfl rfl) rfl)
theorem st_sz {k : Rat} {n : Nat} (zk : NB.Sz 4 k) : ∀ l : List Rat, l.length ≤ 7 → (∀ q ∈ l, NB.Sz n q) → ∀ q ∈ st k 1 l, NB.Sz (n + 40) q := by
  intro l
  refine rev_ind (P := fun l => l.length ≤ 7 → (∀ q ∈ l, NB.Sz n q) → ∀ q ∈ st k 1 l, NB.Sz (n + 40) q) (fun _ _ q hq => nomatch hq) (fun l a ih hn hl q hq => ?_) l
  rw [st_snoc] at hq
  rw [List.length_append, List.length_singleton] at hn
  rcases List.mem_append.mp hq with hq | hq
  · exact ih (by omega) (fun q hq => hl q (List.mem_append_left _ hq)) q hq
  · rw [List.mem_singleton.mp hq, Rat.one_mul, Rat.div_def]
    exact ((hl a (List.mem_append_right _ (.head _))).mul ((sz_pow zk l.length).inv (by omega))).mono (by omega)
def stp (k : Rat) (p : Pc) : Pc := (p.1 * k, p.2.1 * k, st k 1 p.2.2)
theorem sign_le (k : Rat) (r : List Sl) (s0 : Sl) : fB (f2 (gI gLe) (fCall (gF 1 F_sign) (fCons (fVar 1) fNil)) (fC (.int 0))) (s0 :: .dat (nD k) :: r) = okM (decide (k ≤ 0)) := by
  refine ev_fB (ev_f2 (ev_call rfl (ev_gF rfl rfl (P_sign k) rfl)) rfl rfl) ?_
  show okM (decide (_ ≤ (0 : Int))) = _
  congr 2
  apply propext
  have hp : 0 < k.num ↔ 0 < k := by rw [Rat.lt_iff]; simp
  constructor
  · intro h
    by_cases c : 0 < k.num
    · rw [if_pos c] at h; omega
    · have : ¬ 0 < k := fun z => c (hp.mpr z)
      grind
  · intro h
    have c : ¬ 0 < k.num := fun z => by have := hp.mp z; grind
    rw [if_neg c]
    split <;> omega
theorem P_row_stretched (k : Rat) (k0 : 0 < k) (zk : NB.Sz 4 k) (ps : List Pc) (hn : ps.length ≤ 100) (hp : ∀ p ∈ ps, NB.Sz 3000 p.1 ∧ NB.Sz 3000 p.2.1 ∧ p.2.2.length ≤ 13 ∧ ∀ v ∈ p.2.2, NB.Sz 800 v) :
    F_row_stretched [.tuple (ps.map pD), nD k] = okM (.val (.tuple ((ps.map (stp k)).map pD))) := by
  have sl : (sizeLine : Nat) = 16777216 := rfl
  refine ev_fn rfl ?_
  show B_row_stretched [.dat (.tuple (ps.map pD)), .dat (nD k)] = _
  unfold B_row_stretched
  have kn : k ≠ 0 := fun z => by rw [z] at k0; exact absurd k0 (by decide)
  refine ev_sifF (by rw [sign_le, decide_eq_false (by grind)]) (ev_snext ?_)
  refine ev_ret (ev_call (ecz (x := .new ((ps.map (stp k)).map pD)) ?_ rfl) rfl) rfl
  unfold fLC
  rw [ev_fI (items := ps.map pD) rfl rfl, bnd_okM, if_pos (by rw [List.length_map]; omega), lc_any pD (fun p => pD (stp k p)) _ _ ps ?_]
  · rw [List.map_map]; rfl
  · intro p hm
    obtain ⟨z1, z2, z3, z4⟩ := hp p hm
    exact ⟨.dat (pD (stp k p)), ev_call (ecz (ev_call (ecz (ev_f2 rfl rfl ix_t0) (ecz rfl rfl)) (ev_gF rfl rfl (P_times p.1 k (z1.mono (by decide)) (zk.mono (by decide))) (outZ_num _))) (ecz (ev_call (ecz (ev_f2 rfl rfl ix_t1) (ecz rfl rfl)) (ev_gF rfl rfl (P_times p.2.1 k (z2.mono (by decide)) (zk.mono (by decide))) (outZ_num _))) (ecz (ev_call (ecz (ev_f2 rfl rfl (ix_tup (j := 2) rfl rfl)) (ecz rfl rfl)) (ev_gF rfl rfl (P_stretched p.2.2 k kn z3 z4 zk) (outZ_cur _))) rfl))) rfl, rfl⟩
theorem L_refused (ps : List Pc) (k : Rat) (h : k ≤ 0) : FL_refused [.tuple (ps.map pD), nD k] = okM (.val (.bool true)) := by
  have hx : F_row_stretched [.tuple (ps.map pD), nD k] = some (.err .NoNumber) := by
    refine ev_fnX rfl ?_
    show B_row_stretched [.dat (.tuple (ps.map pD)), .dat (nD k)] = _
    unfold B_row_stretched
    exact ev_sifT (by rw [sign_le, decide_eq_true h]) (ev_seqX rfl)
  refine ev_fn rfl ?_
  show BL_refused [.dat (.tuple (ps.map pD)), .dat (nD k), .no, .no] = _
  unfold BL_refused
  refine ev_sset rfl rfl (by walk_at "ss") ?_
  refine ev_seq (ev_tryX (ecz rfl (ecz rfl rfl)) (ev_gFX (ds := [.tuple (ps.map pD), nD k]) rfl rfl hx) rfl (ev_sset (ev_fV (ev_not (ev_fB (ev_fU rfl rfl) rfl))) rfl rfl (ev_set (ev_fV (ev_andT (ev_fB rfl rfl) (ev_andT (ev_fB (ev_fU rfl rfl) rfl) (ev_fB (ev_fU rfl rfl) rfl)))) rfl rfl))) ?_
  exact ev_ret (x := .dat (.bool true)) (ev_f2 rfl rfl rfl) rfl
theorem L_worth_of (l : List Rat) (x : Rat) (b : Nat) (zx : NB.Sz b x) (hl : ∀ q ∈ l, NB.Sz 1900 q) (hv : ∀ i, NB.Sz 1900 (ev (l.drop i) x)) (hb : b ≤ 20) : FL_worth_of [cD l, nD x] = okM (.val (nD (ev l x))) := by
  refine ev_fn rfl ?_
  show BL_worth_of [.dat (cD l), .dat (nD x), .no, .no] = _
  unfold BL_worth_of
  refine ev_sset (x := .dat (nD 0)) (ev_call (ecz rfl (ecz rfl rfl)) rfl) rfl (by walk_at "ss") ?_
  obtain ⟨δ', e, r, rfl⟩ := forN_inv (g := tName 3) (b := (fSet 2 (fCall (gF 2 FL_plus) (fCons (fCall (gF 2 FL_times) (fCons (fVar 2) (fCons (fVar 1) fNil))) (fCons (fVar 3) fNil))))) (δ := [.dat (cD l), .dat (nD x), .dat (nD 0), .no])
    (fun i δ => ∃ r, δ = [.dat (cD l), .dat (nD x), .dat (nD (ev (l.drop (l.length - i)) x)), r]) (l.map nD).reverse ⟨.no, by rw [Nat.sub_zero, List.drop_length]; rfl⟩
    (by
      rintro i d δ hd ⟨r, rfl⟩
      have hi : i < l.length := by
        by_cases c : i < l.length
        · exact c
        · rw [List.getElem?_eq_none (by simp; omega)] at hd; cases hd
      rw [List.getElem?_reverse (by simpa using hi), List.length_map] at hd
      have hlt : l.length - 1 - i < l.length := by omega
      rw [get_nD (List.getElem?_eq_getElem hlt)] at hd
      cases hd
      have hdr : l.drop (l.length - (i + 1)) = l[l.length - 1 - i] :: l.drop (l.length - i) := by
        have e1 : l.length - (i + 1) = l.length - 1 - i := by omega
        rw [e1, List.drop_eq_getElem_cons hlt]
        congr 2; omega
      have e2 : ev (l.drop (l.length - (i + 1))) x = ev (l.drop (l.length - i)) x * x + l[l.length - 1 - i] := by rw [hdr]; simp only [ev]; grind
      refine ⟨_, _, rfl, .inl (ev_set (ev_call (ecz (ev_call (ecz rfl (ecz rfl rfl)) (ev_gF rfl rfl (L_times _ x ((hv _).mono (by decide)) (zx.mono (by omega))) (outZ_num _))) (ecz rfl rfl)) (ev_gF rfl rfl (L_plus _ _ (((hv _).mul zx).mono (by omega)) ((hl _ (List.getElem_mem hlt)).mono (by decide))) (outZ_num _))) rfl rfl), .dat (nD l[l.length - 1 - i]), ?_⟩
      rw [e2]; rfl)
  rw [List.length_reverse, List.length_map, Nat.sub_self, List.drop_zero] at e
  exact ev_seq (ev_for (ev_fI rfl rfl) e) (ev_ret rfl rfl)
theorem gz_evQ {D Q u : Int} {n e : Nat} {x : Rat} (hx : x * (Q : Rat) = (u : Rat)) (hb : Q.natAbs + u.natAbs ≤ 2 ^ e) (he : 0 < e) : ∀ l : List Rat, (∀ v ∈ l, Gz D n v) → Gz (D * Q ^ l.length) (n + (e + 1) * l.length) (ev l x)
  | [], _ => by simp only [ev]; exact Gz.zero _ _
  | a :: t, h => by
    have ih := gz_evQ hx hb he t fun v hv => h v (List.mem_cons_of_mem _ hv)
    have ha := (h a (List.mem_cons_self ..)).up (e := (e + 1) * t.length + 1) (Q ^ t.length) (by
      rw [Int.natAbs_pow]
      have h1 : Q.natAbs ^ t.length ≤ (2 ^ (e + 1)) ^ t.length := Nat.pow_le_pow_left (Nat.le_trans (show Q.natAbs ≤ 2 ^ e by omega) (Nat.pow_le_pow_right (by decide) (by omega))) _
      rw [← Nat.pow_mul] at h1
      exact Nat.lt_of_le_of_lt h1 (Nat.pow_lt_pow_right (by decide) (by omega)))
    have hx' : (-x) * (Q : Rat) = ((-u : Int) : Rat) := by rw [Rat.intCast_neg, ← hx]; grind
    have := Gz.stepE (e := e) hx' (by omega) ha (ih.mono (n := n + ((e + 1) * t.length + 1)) (by omega))
    have e1 : a - (-x) * ev t x = ev (a :: t) x := by simp only [ev]; grind
    have e2 : (e + 1) * (t.length + 1) = (e + 1) * t.length + (e + 1) := Nat.mul_succ ..
    rw [e1, Int.mul_assoc, ← Int.pow_succ] at this
    rw [List.length_cons]
    exact this.mono (by omega)
def hw (C : Ex) (p q : Rat) : Rat := match C with | .fnA => p + q | _ => p * q
theorem ev_how {C : Ex} (hC : C = .fnA ∨ C = .fnB) {δ : List Sl} {fa : List Sl → M (List Rz)} {p q : Rat} (h4 : δ[4]? = some (.exc C)) (ha : fa δ = okM [.dat (nD p), .dat (nD q)]) (zp : NB.Sz 4000 p) (zq : NB.Sz 4000 q) : fCalL 4 2 FL_plus FL_times fa δ = okM (.dat (nD (hw C p q))) := by
  rcases hC with rfl | rfl
  · rw [ev_calL_A h4]; exact ev_call ha (ev_gF rfl rfl (L_plus p q zp zq) (outZ_num _))
  · rw [ev_calL_B h4]; exact ev_call ha (ev_gF rfl rfl (L_times p q zp zq) (outZ_num _))
structure Led (C : Ex) (by_ : Rat) (p q : Pc) : Prop where
  lo : q.1 = hw C p.1 by_
  hi : q.2.1 = hw C p.2.1 by_
  z : NB.Sz 1500 p.1 ∧ NB.Sz 1500 p.2.1
  at_ : ∀ x ∈ [p.1, (p.1 + p.2.1) * (1 / 2), p.1 + 1], NB.Sz 1500 x ∧ FL_worth_of [cD q.2.2, nD (hw C x by_)] = okM (.val (nD (ev p.2.2 x))) ∧ FL_worth_of [cD p.2.2, nD x] = okM (.val (nD (ev p.2.2 x)))
theorem nD_half : nD (1 / 2 : Rat) = .tuple [.int 1, .int 2] := by unfold nD; rw [show (1 / 2 : Rat).num = 1 by decide +kernel, show (1 / 2 : Rat).den = 2 by decide +kernel]; rfl
theorem L_led (C : Ex) (hC : C = .fnA ∨ C = .fnB) (by_ : Rat) (zb : NB.Sz 1500 by_) (ps qs : List Pc) (ss : List PyData) (hn : ps.length ≤ 100) (hq : qs.length = ps.length) (hS : ∀ s ∈ ss, Ss s) (hsm : F_smoothness [.tuple (qs.map pD)] = okM (.fresh ss)) (h : ∀ (j : Nat) (p q : Pc), ps[j]? = some p → qs[j]? = some q → Led C by_ p q) :
    FL_led C [.list (ps.map pD), .tuple (qs.map pD), .list ss, nD by_] = okM (.val (.bool true)) := by
  have sl : (sizeLine : Nat) = 16777216 := rfl
  show fnV 4 5 BL_led C _ = _
  have main : BL_led [.dat (.list (ps.map pD)), .dat (.tuple (qs.map pD)), .dat (.list ss), .dat (nD by_), .exc C, .no, .no, .no, .no, .no] = some (.ret (.val (.bool true))) := by
    unfold BL_led
    have l1 : g1 lenOf [Rz.dat (.tuple (qs.map pD))] = okM (.dat (.int (ps.length : Int))) := by
      show okM (Rz.dat (PyData.int ((qs.map pD).length : Int))) = _
      rw [List.length_map, hq]
    have l2 : g1 lenOf [Rz.dat (.list (ps.map pD))] = okM (.dat (.int (ps.length : Int))) := by
      show okM (Rz.dat (PyData.int ((ps.map pD).length : Int))) = _
      rw [List.length_map]
    refine ev_sifF (ev_orF (ev_notF (ev_fB (ev_fU rfl rfl) rfl)) (ev_orF (ev_fB (ev_f2 (ev_call rfl l1) (ev_call rfl l2) (gNe_int _ _)) (by rw [decide_eq_true rfl]; rfl)) (ev_fB (ev_f2 (ev_call rfl (ev_gF rfl rfl hsm rfl)) rfl (gNeD (b := false) rfl rfl (okD_ss hS) (okD_ss hS) (eqv_sl hS))) rfl))) (ev_snext ?_)
    obtain ⟨δ', e, r5, r6, r7, r8, r9, rfl⟩ := forN_inv (g := tName 5) (b := (fSeq (fAsg (tTupT (tsCons (tName 7) (tsCons (tName 8) (tsCons (tName 9) tsNil))) 3) (f2 gIx (fVar 0) (fVar 5)))
    (fSeq (fIfS (fB (f2 (gEq true) (fSl gSlT (f2 gIx (fVar 1) (fVar 5)) fNoP (fPart (fC (.int 2)))) (fCall D3.gTup (fCons (fCalL 4 2 FL_plus FL_times (fCons (fVar 7) (fCons (fVar 3) fNil))) (fCons (fCalL 4 2 FL_plus FL_times (fCons (fVar 8) (fCons (fVar 3) fNil))) fNil))))) (fRet (fC (.bool false))) fNext)
    ZZ4))) (δ := [.dat (.list (ps.map pD)), .dat (.tuple (qs.map pD)), .dat (.list ss), .dat (nD by_), .exc C, .no, .no, .no, .no, .no])
      (fun i δ => ∃ r5 r6 r7 r8 r9 : Sl, δ = [.dat (.list (ps.map pD)), .dat (.tuple (qs.map pD)), .dat (.list ss), .dat (nD by_), .exc C, r5, r6, r7, r8, r9]) (rangeL 0 ps.length) ⟨_, _, _, _, _, rfl⟩
      (by
        rintro i d δ hd ⟨r5, r6, r7, r8, r9, rfl⟩
        obtain ⟨hi, rfl⟩ := range_at hd
        obtain ⟨p, hp⟩ : ∃ p, ps[i]? = some p := ⟨_, List.getElem?_eq_getElem hi⟩
        obtain ⟨q, hq'⟩ : ∃ q, qs[i]? = some q := ⟨_, List.getElem?_eq_getElem (by omega)⟩
        have L := h i p q hp hq'
        have z1 := L.z.1.mono (n := 4000) (by decide)
        have z2 := L.z.2.mono (n := 4000) (by decide)
        have zb' := zb.mono (n := 4000) (by decide)
        have ex : (0 : Int) + (i : Int) = (i : Int) := by omega
        rw [ex]
        have eq_ : ∀ r6 r7 r8 r9 : Sl, (f2 gIx (fVar 1) (fVar 5)) [.dat (.list (ps.map pD)), .dat (.tuple (qs.map pD)), .dat (.list ss), .dat (nD by_), .exc C, .dat (.int (i : Int)), r6, r7, r8, r9] = okM (.dat (pD q)) := fun _ _ _ _ => ev_f2 rfl rfl (ix_tup (j := i) rfl (get_pD hq'))
        have hcut : ∀ r6 r7 r8 r9 : Sl, (fSl gSlT (f2 gIx (fVar 1) (fVar 5)) fNoP (fPart (fC (.int 2)))) [.dat (.list (ps.map pD)), .dat (.tuple (qs.map pD)), .dat (.list ss), .dat (nD by_), .exc C, .dat (.int (i : Int)), r6, r7, r8, r9] = okM (.dat (cD [q.1, q.2.1])) := fun r6 r7 r8 r9 => by
          unfold fSl
          rw [eq_ r6 r7 r8 r9, bnd_okM]; rfl
        have in1 : ∀ r6 : Sl, ∃ r6', ZZ4 [.dat (.list (ps.map pD)), .dat (.tuple (qs.map pD)), .dat (.list ss), .dat (nD by_), .exc C, .dat (.int (i : Int)), r6, .dat (nD p.1), .dat (nD p.2.1), .dat (cD p.2.2)] = some (.next [.dat (.list (ps.map pD)), .dat (.tuple (qs.map pD)), .dat (.list ss), .dat (nD by_), .exc C, .dat (.int (i : Int)), r6', .dat (nD p.1), .dat (nD p.2.1), .dat (cD p.2.2)]) := fun r6 => by
          obtain ⟨δ', e, r6', rfl⟩ := forN_inv (g := tName 6) (b := ZZ6) (δ := [.dat (.list (ps.map pD)), .dat (.tuple (qs.map pD)), .dat (.list ss), .dat (nD by_), .exc C, .dat (.int (i : Int)), r6, .dat (nD p.1), .dat (nD p.2.1), .dat (cD p.2.2)])
            (fun _ δ => ∃ r6 : Sl, δ = [.dat (.list (ps.map pD)), .dat (.tuple (qs.map pD)), .dat (.list ss), .dat (nD by_), .exc C, .dat (.int (i : Int)), r6, .dat (nD p.1), .dat (nD p.2.1), .dat (cD p.2.2)]) ([p.1, (p.1 + p.2.1) * (1 / 2), p.1 + 1].map nD) ⟨_, rfl⟩
            (by
              rintro j d δ hd ⟨r6, rfl⟩
              rw [List.getElem?_map, Option.map_eq_some_iff] at hd
              obtain ⟨x, hx, rfl⟩ := hd
              obtain ⟨zx, w1, w2⟩ := L.at_ x (List.mem_of_getElem? hx)
              refine ⟨_, _, rfl, .inl (ev_iF (ev_fB (ev_f2 (ev_call (ecz (ev_f2 (eq_ _ _ _ _) rfl (ix_tup (j := 2) rfl rfl)) (ecz (ev_how hC rfl (ecz rfl (ecz rfl rfl)) (zx.mono (by decide)) zb') rfl)) (ev_gF rfl rfl w1 (outZ_num _))) (ev_call (ecz rfl (ecz rfl rfl)) (ev_gF rfl rfl w2 (outZ_num _))) (gNeD (b := false) rfl rfl (ok_num _) (ok_num _) (by rw [eqv_num, decide_eq_true rfl]; rfl))) rfl) rfl), _, rfl⟩)
          refine ⟨r6', ev_for (ev_fI (x := .new ([p.1, (p.1 + p.2.1) * (1 / 2), p.1 + 1].map nD)) ?_ rfl) e⟩
          have t1 := L_plus p.1 p.2.1 z1 z2
          have t2 := L_times (p.1 + p.2.1) (1 / 2) ((L.z.1.add L.z.2).mono (by decide)) ⟨by decide +kernel, by decide +kernel⟩
          rw [nD_half] at t2
          have t3 := L_plus p.1 1 z1 ⟨by decide +kernel, by decide +kernel⟩
          exact ev_call (ecz rfl (ecz (ev_call (ecz (ev_call (ecz rfl (ecz rfl rfl)) (ev_gF rfl rfl t1 (outZ_num _))) (ecz (ev_call (ecz rfl (ecz rfl rfl)) rfl) rfl)) (ev_gF rfl rfl t2 (outZ_num _))) (ecz (ev_call (ecz rfl (ecz (ev_call (ecz rfl (ecz rfl rfl)) rfl) rfl)) (ev_gF (ds := [nD p.1, nD 1]) rfl rfl t3 (outZ_num _))) rfl))) rfl
        obtain ⟨r6', e6⟩ := in1 r6
        refine ⟨_, [.dat (.list (ps.map pD)), .dat (.tuple (qs.map pD)), .dat (.list ss), .dat (nD by_), .exc C, .dat (.int (i : Int)), r6', .dat (nD p.1), .dat (nD p.2.1), .dat (cD p.2.2)], rfl, .inl ?_, _, r6', _, _, _, rfl⟩
        refine ev_seq (ev_asg (d := pD p) (ev_f2 rfl rfl (ix_lst (j := i) rfl (get_pD hp))) rfl rfl) ?_
        refine ev_sifF (ev_fB (ev_f2 (hcut _ _ _ _) (ev_call (ecz (ev_how hC rfl (ecz rfl (ecz rfl rfl)) z1 zb') (ecz (ev_how hC rfl (ecz rfl (ecz rfl rfl)) z2 zb') rfl)) rfl) (gNeD (b := false) (d := cD [q.1, q.2.1]) (e := cD [hw C p.1 by_, hw C p.2.1 by_]) rfl rfl (okD_cD _) (okD_cD _) (by rw [eqv_cD, L.lo, L.hi, decide_eq_true rfl]; rfl))) rfl) (ev_snext ?_)
        exact e6)
    exact ev_seq (ev_for (ev_rng1 (m := ps.length) (ecz (ev_call rfl l2) rfl) (by omega) (by omega) (by omega)) e) (ev_ret rfl rfl)
  unfold fnV
  rw [if_pos (show ([.list (ps.map pD), .tuple (qs.map pD), .list ss, nD by_] : List PyData).length = 4 from rfl), show ([.list (ps.map pD), .tuple (qs.map pD), .list ss, nD by_] : List PyData).map Sl.dat ++ Sl.exc C :: List.replicate 5 Sl.no = [.dat (.list (ps.map pD)), .dat (.tuple (qs.map pD)), .dat (.list ss), .dat (nD by_), .exc C, .no, .no, .no, .no, .no] from rfl, main]
  rfl
theorem mul_pw (a b : Rat) : ∀ m : Nat, (a * b) ^ m = a ^ m * b ^ m
  | 0 => by simp only [Rat.pow_zero]; grind
  | m + 1 => by simp only [Rat.pow_succ, mul_pw a b m]; grind
theorem Jn.str {l l' : List Rat} {h : Rat} {s : PyData} {A B : Int} {k : Rat} (hk : k * (B : Rat) = (A : Rat)) (k0 : k ≠ 0) (hA : 1 ≤ A ∧ A ≤ 9) (hB : 1 ≤ B ∧ B ≤ 7) (J : Jn 6 5 l h l' s) : Jn (6 * A ^ 6) 50 (st k 1 l) (h * k) (st k 1 l') s := by
  rcases J with ⟨rfl, rfl⟩ | ⟨m, a, ha, hm, ga, rfl, hev⟩
  · exact .inl ⟨rfl, rfl⟩
  · have se : ∀ (l : List Rat) (x : Rat), ev (st k 1 l) x = ev l (x * k⁻¹) := fun l x => by
      have := st_ev k k0 l x 1 (by decide)
      rw [Rat.one_mul] at this
      exact this
    have ki : k⁻¹ ≠ 0 := fun z => k0 (by grind)
    refine .inr ⟨m, a * (k⁻¹) ^ m, fun z => ?_, hm, ?_, rfl, fun x => ?_⟩
    · rcases Rat.mul_eq_zero.mp z with z | z
      · exact ha z
      · exact pow_nz ki m z
    · obtain ⟨u, hu, bu⟩ := ga
      have hA0 : (A : Rat) ≠ 0 := by exact_mod_cast (show A ≠ 0 by omega)
      have hkB : k⁻¹ * (A : Rat) = (B : Rat) := by rw [← hk]; grind
      refine ⟨u * (B ^ m * A ^ (6 - m)), ?_, ?_⟩
      · have e1 : (k⁻¹) ^ m * (A : Rat) ^ m = (B : Rat) ^ m := by rw [← mul_pw, hkB]
        have e2 : (A : Rat) ^ 6 = (A : Rat) ^ m * (A : Rat) ^ (6 - m) := by rw [← rpow_add]; congr 1; omega
        rw [Rat.intCast_mul, Rat.intCast_mul, Rat.intCast_mul, Rat.intCast_pow, Rat.intCast_pow, Rat.intCast_pow, ← hu, ← e1, e2]
        grind
      · rw [Int.natAbs_mul, Int.natAbs_mul, Int.natAbs_pow, Int.natAbs_pow]
        have b1 : B.natAbs ^ m ≤ (2 ^ 3) ^ m := Nat.pow_le_pow_left (by omega) m
        have b2 : A.natAbs ^ (6 - m) ≤ (2 ^ 4) ^ (6 - m) := Nat.pow_le_pow_left (by omega) _
        rw [← Nat.pow_mul] at b1 b2
        have b3 := Nat.mul_le_mul b1 b2
        rw [← Nat.pow_add] at b3
        have b4 : (2 : Nat) ^ (3 * m + 4 * (6 - m)) ≤ 2 ^ 45 := Nat.pow_le_pow_right (by decide) (by omega)
        have b5 : 0 < (2 : Nat) ^ 45 := by decide
        have b6 := Nat.le_trans b3 b4
        calc u.natAbs * (B.natAbs ^ m * A.natAbs ^ (6 - m)) ≤ u.natAbs * 2 ^ 45 := Nat.mul_le_mul_left _ b6
          _ < 2 ^ 5 * 2 ^ 45 := Nat.mul_lt_mul_of_pos_right bu b5
          _ = 2 ^ 50 := by decide
    · have e3 : x * k⁻¹ - h = k⁻¹ * (x - h * k) := by grind
      rw [se, se, hev, e3, mul_pw]
      grind
theorem P_row_mv (c : Rat) (zc : NB.Sz 6 c) (ps : List Pc) (hn : ps.length ≤ 100) (hp : ∀ p ∈ ps, NB.Sz 3000 p.1 ∧ NB.Sz 3000 p.2.1 ∧ F_moved [cD p.2.2, nD c] = okM (.val (cD (mvs c p.2.2 p.2.2.length)))) :
    F_row_moved [.tuple (ps.map pD), nD c] = okM (.val (.tuple ((ps.map (mvp c)).map pD))) := by
  have sl : (sizeLine : Nat) = 16777216 := rfl
  refine ev_fn rfl ?_
  show B_row_moved [.dat (.tuple (ps.map pD)), .dat (nD c)] = _
  unfold B_row_moved
  refine ev_ret (ev_call (ecz (x := .new ((ps.map (mvp c)).map pD)) ?_ rfl) rfl) rfl
  unfold fLC
  rw [ev_fI (items := ps.map pD) rfl rfl, bnd_okM, if_pos (by rw [List.length_map]; omega), lc_any pD (fun p => pD (mvp c p)) _ _ ps ?_]
  · rw [List.map_map]; rfl
  · intro p hm
    obtain ⟨z1, z2, hmv⟩ := hp p hm
    exact ⟨.dat (pD (mvp c p)), ev_call (ecz (ev_call (ecz (ev_f2 rfl rfl ix_t0) (ecz rfl rfl)) (ev_gF rfl rfl (P_plus p.1 c (z1.mono (by decide)) (zc.mono (by decide))) (outZ_num _))) (ecz (ev_call (ecz (ev_f2 rfl rfl ix_t1) (ecz rfl rfl)) (ev_gF rfl rfl (P_plus p.2.1 c (z2.mono (by decide)) (zc.mono (by decide))) (outZ_num _))) (ecz (ev_call (ecz (ev_f2 rfl rfl (ix_tup (j := 2) rfl rfl)) (ecz rfl rfl)) (ev_gF rfl rfl hmv (outZ_cur _))) rfl))) rfl, rfl⟩
theorem mvp_back (c : Rat) (ps : List Pc) : (ps.map (mvp c)).map (mvp (-c)) = ps := by
  rw [List.map_map]
  have : ∀ p : Pc, (mvp (-c) ∘ mvp c) p = p := fun p => by
    unfold Function.comp mvp
    dsimp only
    rw [mvs_len, mv_back]
    have e1 : p.1 + c + -c = p.1 := by grind
    have e2 : p.2.1 + c + -c = p.2.1 := by grind
    rw [e1, e2]
  rw [show (mvp (-c) ∘ mvp c) = id from funext this, List.map_id]
theorem stp_back (k : Rat) (k0 : k ≠ 0) (ps : List Pc) : (ps.map (stp k)).map (stp k⁻¹) = ps := by
  rw [List.map_map]
  have : ∀ p : Pc, (stp k⁻¹ ∘ stp k) p = p := fun p => by
    unfold Function.comp stp
    dsimp only
    have sb := st_back k k0 p.2.2 1 (by decide)
    have one1 : (1 : Rat)⁻¹ = 1 := by grind
    rw [one1] at sb
    rw [sb]
    have e1 : p.1 * k * k⁻¹ = p.1 := by grind
    have e2 : p.2.1 * k * k⁻¹ = p.2.1 := by grind
    rw [e1, e2]
  rw [show (stp k⁻¹ ∘ stp k) = id from funext this, List.map_id]
theorem Cn.pl {p : Pc} (h : Cn p) : ∀ x ∈ [p.1, (p.1 + p.2.1) * (1 / 2), p.1 + 1], ∃ u : Int, x * ((24 : Int) : Rat) = (u : Rat) ∧ u.natAbs ≤ 864 := by
  obtain ⟨_, ⟨u1, e1, b1⟩, ⟨u2, e2, b2⟩, _⟩ := h
  have c12 : ((12 : Int) : Rat) = 12 := rfl
  have c24 : ((24 : Int) : Rat) = 24 := rfl
  rw [c12] at e1 e2
  intro x hx
  rw [c24]
  rcases List.mem_cons.mp hx with rfl | hx
  · exact ⟨2 * u1, by rw [Rat.intCast_mul, ← e1]; show _ = (2 : Rat) * _; grind, by omega⟩
  · rcases List.mem_cons.mp hx with rfl | hx
    · exact ⟨u1 + u2, by rw [Rat.intCast_add, ← e1, ← e2]; grind, by omega⟩
    · rw [List.mem_singleton] at hx
      subst hx
      exact ⟨2 * u1 + 24, by rw [Rat.intCast_add, Rat.intCast_mul, ← e1, c24]; show _ = (2 : Rat) * _ + _; grind, by omega⟩
theorem Cn.sz {p : Pc} (h : Cn p) : ∀ v ∈ p.2.2, NB.Sz 160 v := fun v hv => ((h.2.2.2.2.2 v hv).mono (n := 160) (by decide)).sz D0_nz (Nat.lt_of_lt_of_le D0_lt (Nat.pow_le_pow_right (by decide) (by decide)))
theorem pl_sz {x : Rat} {u : Int} (h : x * ((24 : Int) : Rat) = (u : Rat)) (b : u.natAbs ≤ 864) : NB.Sz 11 x := Gz.sz (D := 24) ⟨u, h, by omega⟩ (by decide) (by decide)
theorem Cn.w {p : Pc} (h : Cn p) {x : Rat} {u : Int} (hx : x * ((24 : Int) : Rat) = (u : Rat)) (b : u.natAbs ≤ 864) : FL_worth_of [cD p.2.2, nD x] = okM (.val (nD (ev p.2.2 x))) := by
  refine L_worth_of _ _ 11 (pl_sz hx b) (fun q hq => (h.sz q hq).mono (by decide)) (fun i => ?_) (by decide)
  refine (sz_ev 160 11 _ _ (pl_sz hx b) fun q hq => h.sz q (List.mem_of_mem_drop hq)).mono ?_
  have := h.2.2.2.1
  rw [List.length_drop]
  have h2 := Nat.mul_le_mul_right (160 + 11 + 1) (show p.2.2.length - i ≤ 7 by omega)
  omega
theorem led_mv {Q t : Int} {c : Rat} (hc : c * (Q : Rat) = (t : Rat)) (hQ : 1 ≤ Q ∧ Q ≤ 5) (ht : t.natAbs ≤ 10) (zc : NB.Sz 6 c) {p : Pc} (h : Cn p) : Led .fnA c p (mvp c p) := by
  have hb : Q.natAbs + t.natAbs ≤ 64 := by omega
  refine ⟨rfl, rfl, ⟨h.z.1.1 |> fun _ => (h.2.1.sz (by decide)).mono (by decide), (h.2.2.1.sz (by decide)).mono (by decide)⟩, fun x hx => ?_⟩
  obtain ⟨u, hu, bu⟩ := h.pl x hx
  refine ⟨(pl_sz hu bu).mono (by decide), ?_, h.w hu bu⟩
  have hl := h.2.2.2.1
  have g := mvs_gz hc hb p.2.2 (by omega) h.2.2.2.2.2 p.2.2.length
  have nz : ∀ e m : Nat, D0 * Q ^ e * (24 * Q) ^ m ≠ 0 := fun e m => Int.mul_ne_zero (Int.mul_ne_zero D0_nz (Int.pow_ne_zero (by omega))) (Int.pow_ne_zero (by omega))
  have lt : ∀ e m : Nat, e ≤ 91 → m ≤ 7 → (D0 * Q ^ e * (24 * Q) ^ m).natAbs < 2 ^ 1900 := fun e m he hm => by
    rw [Int.natAbs_mul, Int.natAbs_pow]
    have h1 : (24 * Q).natAbs ^ m ≤ (2 ^ 7) ^ m := Nat.pow_le_pow_left (by omega) m
    rw [← Nat.pow_mul] at h1
    have h2 := DzD (Q := Q) (by omega) e
    calc _ ≤ (D0 * Q ^ e).natAbs * 2 ^ (7 * m) := Nat.mul_le_mul_left _ h1
      _ < 2 ^ (30 + 4 * e) * 2 ^ (7 * m) := Nat.mul_lt_mul_of_pos_right h2 (Nat.pow_pos (by decide))
      _ = 2 ^ (30 + 4 * e + 7 * m) := (Nat.pow_add ..).symm
      _ ≤ 2 ^ 1900 := Nat.pow_le_pow_right (by decide) (by omega)
  have hx' : (x + c) * ((24 * Q : Int) : Rat) = ((u * Q + 24 * t : Int) : Rat) := by
    rw [Rat.intCast_mul, Rat.intCast_add, Rat.intCast_mul, Rat.intCast_mul, ← hu, ← hc]; grind
  have bx : (24 * Q).natAbs + (u * Q + 24 * t).natAbs ≤ 2 ^ 13 := by
    have h1 := Int.natAbs_add_le (u * Q) (24 * t)
    rw [Int.natAbs_mul u Q] at h1
    have h2 : u.natAbs * Q.natAbs ≤ 864 * 5 := Nat.mul_le_mul bu (by omega)
    have h3 : (2 : Nat) ^ 13 = 8192 := rfl
    omega
  have zx : NB.Sz 14 (x + c) := by
    refine Gz.sz (D := 24 * Q) ⟨_, hx', ?_⟩ (by omega) ?_
    · have h3 : (2 : Nat) ^ 13 < 2 ^ 14 := by decide
      omega
    · have h3 : (2 : Nat) ^ 13 < 2 ^ 14 := by decide
      omega
  have := L_worth_of (mvs c p.2.2 p.2.2.length) (x + c) 14 zx (fun q hq => by
      have := g q hq
      refine (this.mono (n := 1900) (by omega)).sz (Int.mul_ne_zero D0_nz (Int.pow_ne_zero (by omega))) ?_
      have := lt (13 * p.2.2.length) 0 (by omega) (by omega)
      rwa [Int.pow_zero, Int.mul_one] at this) (fun i => by
      have h1 := gz_evQ hx' bx (by decide) ((mvs c p.2.2 p.2.2.length).drop i) fun v hv => g v (List.mem_of_mem_drop hv)
      have h2 : ((mvs c p.2.2 p.2.2.length).drop i).length ≤ 7 := by rw [List.length_drop, mvs_len]; omega
      have h3 := Nat.mul_le_mul_left (13 + 1) h2
      exact (h1.mono (n := 1900) (by omega)).sz (nz _ _) (lt _ _ (by omega) h2)) (by decide)
  rw [mv_ev] at this
  have e1 : x + c - c = x := by grind
  rw [e1] at this
  exact this
theorem led_st {k : Rat} (k0 : k ≠ 0) (zk : NB.Sz 4 k) {p : Pc} (h : Cn p) : Led .fnB k p (stp k p) := by
  refine ⟨rfl, rfl, ⟨(h.2.1.sz (by decide)).mono (by decide), (h.2.2.1.sz (by decide)).mono (by decide)⟩, fun x hx => ?_⟩
  obtain ⟨u, hu, bu⟩ := h.pl x hx
  refine ⟨(pl_sz hu bu).mono (by decide), ?_, h.w hu bu⟩
  have hl := h.2.2.2.1
  have zs := st_sz zk p.2.2 hl h.sz
  have zx := (pl_sz hu bu).mul zk
  have := L_worth_of (st k 1 p.2.2) (x * k) 15 zx (fun q hq => (zs q hq).mono (by decide)) (fun i => by
    refine (sz_ev (160 + 40) (11 + 4) _ _ zx fun q hq => zs q (List.mem_of_mem_drop hq)).mono ?_
    rw [List.length_drop, st_len]
    have h2 := Nat.mul_le_mul_right (160 + 40 + (11 + 4) + 1) (show p.2.2.length - i ≤ 7 by omega)
    omega) (by decide)
  have se := st_ev k k0 p.2.2 (x * k) 1 (by decide)
  rw [Rat.one_mul] at se
  have e1 : x * k * k⁻¹ = x := by grind
  rw [se, e1] at this
  exact this
theorem lc3_any (g : Pc → PyData) (fe : List Sl → M Rz) (δ : List Sl) : ∀ (l : List Pc), (∀ p ∈ l, ∃ z, fe (.dat (nD p.1) :: .dat (nD p.2.1) :: .dat (cD p.2.2) :: δ) = okM z ∧ datOf z = some (g p)) → lcN3 fe δ (l.map pD) = some (l.map g)
  | [], _ => rfl
  | p :: r, h => by
    obtain ⟨z, h1, h2⟩ := h p (List.mem_cons_self ..)
    have ih := lc3_any g fe δ r fun q hq => h q (List.mem_cons_of_mem _ hq)
    rw [List.map_cons, List.map_cons, show pD p = .tuple [nD p.1, nD p.2.1, cD p.2.2] from rfl]
    unfold lcN3
    rw [h1]
    show (match datOf z, lcN3 fe δ (r.map pD) with | some e, some es => some (e :: es) | _, _ => none) = _
    rw [h2, ih]
theorem row_wo {ps : List Pc} (h0 : ps.length ≠ 0) (h8 : ps.length ≤ 8) (hC : ∀ p ∈ ps, Cn p) (hk : ∀ j p p', ps[j]? = some p → ps[j + 1]? = some p' → p'.1 = p.2.1) : ∀ p ∈ ps, F_row_worth [.tuple (ps.map pD), nD p.1] = okM (.val (nD (ev p.2.2 p.1))) ∧ F_row_worth [.tuple ((pln ps).map pD), nD p.1] = okM (.val (nD (ev p.2.2 p.1))) := by
  intro p hp
  have hlt : ∀ p ∈ ps, p.1 < p.2.1 := fun p hp => (hC p hp).1
  have hr := row_rise' hlt hk
  obtain ⟨i, hi, ei⟩ := List.getElem_of_mem hp
  have gi : ps[i]? = some p := by rw [List.getElem?_eq_getElem hi, ei]
  obtain ⟨q0, g0⟩ : ∃ q0, ps[0]? = some q0 := ⟨_, List.getElem?_eq_getElem (by omega)⟩
  obtain ⟨qz, gz⟩ : ∃ qz, ps[ps.length - 1]? = some qz := ⟨_, List.getElem?_eq_getElem (by omega)⟩
  have hh : ps.head? = some q0 := by rw [← g0]; cases ps <;> rfl
  have hz : ps.getLast? = some qz := by rw [List.getLast?_eq_getElem?, gz]
  have b1 : q0.1 ≤ p.1 := by
    cases i with
    | zero => rw [g0] at gi; cases gi; exact Rat.le_refl
    | succ n => have := (row_rise hlt hk n 0 q0 p g0 (by rw [← gi]; congr 1; omega)).1; grind
  have b2 : p.1 ≤ qz.2.1 := by
    by_cases c : i = ps.length - 1
    · rw [← c, gi] at gz; cases gz; have := hlt p hp; grind
    · have h1 := (row_rise hlt hk (ps.length - 1 - i - 1) i p qz gi (by rw [← gz]; congr 1; omega)).1
      have h2 := hlt qz (List.mem_of_getElem? gz)
      grind
  have cv : cvx ps p.1 = some p.2.2 := by
    obtain ⟨r, s, e⟩ := List.append_of_mem hp
    have e' : ps = r ++ [p] ++ s := by rw [e]; simp
    rw [e']
    refine rise_cvx fun q hq => ?_
    obtain ⟨a, b, e2⟩ := List.append_of_mem hq
    exact hr (r ++ [p] ++ a) q ⟨b, by rw [e', e2]; simp⟩ p (by simp)
  have z : ∀ q ∈ ps, NB.Sz 4000 q.1 ∧ NB.Sz 4000 q.2.1 := fun q hq => (hC q hq).z
  have zx : NB.Sz 12 p.1 := ((hC p hp).2.1.sz (by decide)).mono (by decide)
  refine ⟨P_row_worth q0 qz ps p.1 p.2.2 hh hz (by omega) z zx b1 b2 cv (hC p hp).2.2.2.1 (hC p hp).sz, ?_⟩
  have ph := pln_head ps
  have pz := pln_last ps
  rw [hh] at ph
  rw [hz] at pz
  obtain ⟨d0, e0, f0⟩ := Option.map_eq_some_iff.mp ph
  obtain ⟨dz, ez, fz⟩ := Option.map_eq_some_iff.mp pz
  have pl := pln_len ps
  refine P_row_worth d0 dz (pln ps) p.1 p.2.2 e0 ez (by omega) (fun q hq => ?_) zx (by rw [f0]; exact b1) (by rw [fz]; exact b2) (by rw [cvx_pln p.1 ps hr]; exact cv) (hC p hp).2.2.2.1 (hC p hp).sz
  obtain ⟨⟨a, ha, ea⟩, ⟨b, hb, eb⟩⟩ := pln_mem ps q hq
  rw [ea, eb]
  exact ⟨(z a ha).1, (z b hb).2⟩
theorem pls_pl : ∀ q ∈ [0, -3, (1 / 2 : Rat), (-7 / 4 : Rat)], Pl 0 q := by
  intro q hq
  simp only [List.mem_cons, List.not_mem_nil, or_false] at hq
  rcases hq with rfl | rfl | rfl | rfl
  · exact ⟨0, by grind, by decide⟩
  · exact ⟨-36, by grind, by decide⟩
  · exact ⟨6, by grind, by decide⟩
  · exact ⟨-21, by grind, by decide⟩
theorem pls_D : PyData.list [.tuple [.int 0, .int 1], .tuple [.int (-3), .int 1], .tuple [.int 1, .int 2], .tuple [.int (-7), .int 4]] = lD [0, -3, (1 / 2 : Rat), (-7 / 4 : Rat)] := by
  have e1 : nD (1 / 2 : Rat) = .tuple [.int 1, .int 2] := by unfold nD; rw [show (1 / 2 : Rat).num = 1 by decide +kernel, show (1 / 2 : Rat).den = 2 by decide +kernel]; rfl
  have e2 : nD (-7 / 4 : Rat) = .tuple [.int (-7), .int 4] := by unfold nD; rw [show (-7 / 4 : Rat).num = -7 by decide +kernel, show (-7 / 4 : Rat).den = 4 by decide +kernel]; rfl
  unfold lD
  simp only [List.map_cons, List.map_nil, e1, e2]
  rfl
theorem ev_gFV {n : Nat} {F : Ex → List PyData → M Out} {zs : List Rz} {ds : List PyData} {C : Ex} {o : Out} {z : Rz} (h0 : vsOf zs = some (ds, C)) (h1 : ds.length = n) (h2 : F C ds = okM o) (h3 : outZ o = z) : gFV n F zs = okM z := by
  unfold gFV; rw [h0]; dsimp only; rw [if_pos h1, h2, bnd_okM, h3]
theorem pure_law (ns : List Int) (_h : ns.length ≤ 63) : F_law [scr ns] = okM (.val (.bool true)) := by
  have sl : (sizeLine : Nat) = 16777216 := rfl
  refine ev_fn rfl ?_
  show B_law [.dat (scr ns), .no, .no, .no, .no, .no, .no, .no, .no, .no] = _
  unfold B_law
  obtain ⟨c20, h20⟩ := L_cell ns 20 (by decide) (by decide)
  obtain ⟨c21, h21⟩ := L_cell ns 21 (by decide) (by decide)
  obtain ⟨c22, h22⟩ := L_cell ns 22 (by decide) (by decide)
  obtain ⟨c23, h23⟩ := L_cell ns 23 (by decide) (by decide)
  obtain ⟨c24, h24⟩ := L_cell ns 24 (by decide) (by decide)
  obtain ⟨c25, h25⟩ := L_cell ns 25 (by decide) (by decide)
  obtain ⟨most, hm, hm1⟩ : ∃ most : Int, (most = 4 ∨ most = 8) ∧ gIx (.new [.int 4, .int 8]) (.dat (.int (if decide (c20 % 8 = 5) then 1 else 0))) = okM (.dat (.int most)) := by
    by_cases c : c20 % 8 = 5
    · rw [decide_eq_true c]; exact ⟨8, .inr rfl, ix_new (j := 1) rfl rfl⟩
    · rw [decide_eq_false c]; exact ⟨4, .inl rfl, ix_new (j := 0) rfl rfl⟩
  refine ev_sset (x := .dat (.int most)) (ev_f2 (ev_call rfl rfl) (ev_call (ecz (ev_f2 (ev_f2 (ev_call (ecz rfl (ecz rfl rfl)) (ev_gF rfl rfl h20 rfl)) rfl (gModP (by decide))) rfl (gEq_int _ _)) rfl) rfl) hm1) rfl (by walk_at "ss") ?_
  obtain ⟨ps, ss, hp, p8, sp, hS, hC, hL⟩ := L_pieces ns 0 most [0, -3, (1 / 2 : Rat), (-7 / 4 : Rat)] (by decide) (by decide) (by omega) (by omega) pls_pl (by simp) (by simp)
  rw [← pls_D] at hp
  refine ev_seq (ev_asg (d := .tuple [.list (ps.map pD), .list ss]) (x := .dat (.tuple [.list (ps.map pD), .list ss])) (ev_call (ecz rfl (ecz rfl (ecz rfl (ecz (ev_call rfl rfl) rfl)))) (ev_gF rfl rfl hp rfl)) rfl rfl) ?_
  have hz : ∀ p ∈ ps, NB.Sz 4000 p.1 ∧ NB.Sz 4000 p.2.1 := fun p h => (hC p h).z
  have hk : ∀ j p p', ps[j]? = some p → ps[j + 1]? = some p' → p'.1 = p.2.1 := fun j p p' e1 e2 => by
    obtain ⟨s, hs⟩ : ∃ s, ss[j]? = some s := by
      have : j + 1 < ps.length := (List.getElem?_eq_some_iff.mp e2).1
      exact ⟨ss[j]'(by omega), List.getElem?_eq_getElem (by omega)⟩
    exact (hL j p p' s e1 e2 hs).1
  have hrow := P_row_of ps (by omega) hz (row_ok ps (by omega) p8 (fun p h => (hC p h).1) hk) (no_gt ps fun p h => (hC p h).2.2.2.1)
  refine ev_sset (x := .dat (.tuple (ps.map pD))) (ev_call rfl (ev_gF rfl rfl hrow (outZ_row ps))) rfl (by walk_at "ss") ?_
  obtain ⟨t, ht⟩ : ∃ t : Int, t = c21 % 21 - 10 := ⟨_, rfl⟩
  obtain ⟨q, hq⟩ : ∃ q : Int, q = 1 + c22 % 5 := ⟨_, rfl⟩
  have t1 : -10 ≤ t ∧ t ≤ 10 := by omega
  have q1 : 1 ≤ q ∧ q ≤ 5 := by omega
  have hnum := L_num t q (by omega) (Nat.lt_of_lt_of_le (show q.natAbs < 2 ^ 3 by omega) (Nat.pow_le_pow_right (by decide) (by decide)))
  obtain ⟨c, hc⟩ : ∃ c : Rat, c = Rat.divInt t q := ⟨_, rfl⟩
  rw [← hc] at hnum
  have zc : NB.Sz 6 c := by rw [hc]; exact NB.Sz.divInt (by omega) (by omega) (by omega)
  have cq : c * (q : Rat) = (t : Rat) := by
    have : (q : Rat) ≠ 0 := by exact_mod_cast (show q ≠ 0 by omega)
    rw [hc, Rat.divInt_eq_div]; grind
  obtain ⟨A, hA⟩ : ∃ A : Int, A = 1 + c23 % 9 := ⟨_, rfl⟩
  obtain ⟨B, hB⟩ : ∃ B : Int, B = 1 + c24 % 7 := ⟨_, rfl⟩
  have A1 : 1 ≤ A ∧ A ≤ 9 := by omega
  have B1 : 1 ≤ B ∧ B ≤ 7 := by omega
  have hnumk := L_num A B (by omega) (Nat.lt_of_lt_of_le (show B.natAbs < 2 ^ 3 by omega) (Nat.pow_le_pow_right (by decide) (by decide)))
  obtain ⟨k, hkk⟩ : ∃ k : Rat, k = Rat.divInt A B := ⟨_, rfl⟩
  rw [← hkk] at hnumk
  have zk : NB.Sz 4 k := by rw [hkk]; exact NB.Sz.divInt (by omega) (by omega) (by omega)
  have BR : (0 : Rat) < (B : Rat) := by exact_mod_cast (show (0 : Int) < B by omega)
  have AR : (0 : Rat) < (A : Rat) := by exact_mod_cast (show (0 : Int) < A by omega)
  have kB : k * (B : Rat) = (A : Rat) := by
    have : (B : Rat) ≠ 0 := by grind
    rw [hkk, Rat.divInt_eq_div]; grind
  have kp : 0 < k := by
    rw [hkk, Rat.divInt_eq_div, Rat.div_def]
    exact Rat.mul_pos AR (Rat.inv_pos.mpr BR)
  have k0 : k ≠ 0 := by grind
  refine ev_sset (x := .dat (nD c)) (ev_call (ecz (x := .dat (.int t)) (ev_f2 (ev_f2 (ev_call (ecz rfl (ecz rfl rfl)) (ev_gF rfl rfl h21 rfl)) rfl (gModP (by decide))) rfl (by rw [ht]; rfl)) (ecz (x := .dat (.int q)) (ev_f2 rfl (ev_f2 (ev_call (ecz rfl (ecz rfl rfl)) (ev_gF rfl rfl h22 rfl)) rfl (gModP (by decide))) (by rw [hq]; rfl)) rfl)) (ev_gF rfl rfl hnum (outZ_num _))) rfl (by walk_at "ss") ?_
  refine ev_sset (x := .dat (nD k)) (ev_call (ecz (x := .dat (.int A)) (ev_f2 rfl (ev_f2 (ev_call (ecz rfl (ecz rfl rfl)) (ev_gF rfl rfl h23 rfl)) rfl (gModP (by decide))) (by rw [hA]; rfl)) (ecz (x := .dat (.int B)) (ev_f2 rfl (ev_f2 (ev_call (ecz rfl (ecz rfl rfl)) (ev_gF rfl rfl h24 rfl)) rfl (gModP (by decide))) (by rw [hB]; rfl)) rfl)) (ev_gF rfl rfl hnumk (outZ_num _))) rfl (by walk_at "ss") ?_
  have cb : q.natAbs + t.natAbs ≤ 64 := by omega
  have hmv := P_row_moved cq cb (by omega) (by omega) zc ps (by omega) hC
  refine ev_sset (ev_call (ecz rfl (ecz rfl rfl)) (ev_gF rfl rfl hmv (outZ_row _))) rfl (by walk_at "ss") ?_
  have z3 : ∀ p ∈ ps, NB.Sz 9 p.1 ∧ NB.Sz 9 p.2.1 := fun p h => ⟨(hC p h).2.1.sz (by decide), (hC p h).2.2.1.sz (by decide)⟩
  have hst := P_row_stretched k kp zk ps (by omega) (fun p h => ⟨(z3 p h).1.mono (by decide), (z3 p h).2.mono (by decide), by have := (hC p h).2.2.2.1; omega, fun v hv => ((hC p h).sz v hv).mono (by decide)⟩)
  refine ev_sset (ev_call (ecz rfl (ecz rfl rfl)) (ev_gF rfl rfl hst (outZ_row _))) rfl (by walk_at "ss") ?_
  have hsm2 := P_smoothness 6 (12 * q) 5 (ps.map (mvp c)) ss (by rw [List.length_map]; omega) (by rw [List.length_map]; omega) (by decide) (by decide) (by decide) (by omega) hS (fun p h => by
      obtain ⟨p0, h0, rfl⟩ := List.mem_map.mp h
      refine ⟨?_, fun v hv => ((mv_row cq cb (by omega) (by omega) zc p0.2.2 (hC p0 h0).2.2.2.1 (hC p0 h0).2.2.2.2.2).2 v hv).mono (by decide)⟩
      show (mvs c p0.2.2 p0.2.2.length).length ≤ 13
      rw [mvs_len]; have := (hC p0 h0).2.2.2.1; omega) (fun p h => by
      obtain ⟨p0, h0, rfl⟩ := List.mem_map.mp h
      obtain ⟨u, e1, e2⟩ := (hC p0 h0).2.1
      refine ⟨u * q + 12 * t, ?_, ?_⟩
      · show (p0.1 + c) * ((12 * q : Int) : Rat) = _
        rw [Rat.intCast_mul, Rat.intCast_add, Rat.intCast_mul, Rat.intCast_mul]; grind
      · have h1 := Int.natAbs_add_le (u * q) (12 * t)
        rw [Int.natAbs_mul u q] at h1
        have h2 : u.natAbs * q.natAbs ≤ 420 * 5 := Nat.mul_le_mul (by omega) (by omega)
        omega) (fun j p p' s e1 e2 e3 => by
      rw [List.getElem?_map, Option.map_eq_some_iff] at e1 e2
      obtain ⟨a, ha, rfl⟩ := e1
      obtain ⟨b', hb', rfl⟩ := e2
      obtain ⟨h1, h2⟩ := hL j a b' s ha hb' e3
      have := h2.moved c
      rw [← h1] at this
      exact this)
  have hsm3 := P_smoothness (6 * A ^ 6) (12 * B) 50 (ps.map (stp k)) ss (by rw [List.length_map]; omega) (by rw [List.length_map]; omega) (Int.mul_ne_zero (by decide) (Int.pow_ne_zero (by omega))) (by
      rw [Int.natAbs_mul, Int.natAbs_pow]
      have h1 : A.natAbs ^ 6 ≤ 9 ^ 6 := Nat.pow_le_pow_left (by omega) 6
      have h2 : (9 : Nat) ^ 6 = 531441 := rfl
      have h3 : (6 : Int).natAbs = 6 := rfl
      have h4 : (2 : Nat) ^ 50 = 1125899906842624 := rfl
      rw [h3, h4]
      omega) (by decide) (by omega) hS (fun p h => by
      obtain ⟨p0, h0, rfl⟩ := List.mem_map.mp h
      refine ⟨?_, fun v hv => (st_sz zk p0.2.2 (hC p0 h0).2.2.2.1 (hC p0 h0).sz v hv).mono (by decide)⟩
      show (st k 1 p0.2.2).length ≤ 13
      rw [st_len]; have := (hC p0 h0).2.2.2.1; omega) (fun p h => by
      obtain ⟨p0, h0, rfl⟩ := List.mem_map.mp h
      obtain ⟨u, e1, e2⟩ := (hC p0 h0).2.1
      refine ⟨u * A, ?_, ?_⟩
      · show (p0.1 * k) * ((12 * B : Int) : Rat) = _
        rw [Rat.intCast_mul, Rat.intCast_mul, ← e1, ← kB]; grind
      · rw [Int.natAbs_mul u A]
        have h2 : u.natAbs * A.natAbs ≤ 420 * 9 := Nat.mul_le_mul (by omega) (by omega)
        have h3 : (2 : Nat) ^ 13 = 8192 := rfl
        omega) (fun j p p' s e1 e2 e3 => by
      rw [List.getElem?_map, Option.map_eq_some_iff] at e1 e2
      obtain ⟨a, ha, rfl⟩ := e1
      obtain ⟨b', hb', rfl⟩ := e2
      obtain ⟨h1, h2⟩ := hL j a b' s ha hb' e3
      have := h2.str kB k0 A1 B1
      rw [← h1] at this
      exact this)
  have led : ∀ (f : Pc → Pc) (j : Nat) (p q : Pc), ps[j]? = some p → (ps.map f)[j]? = some q → p ∈ ps ∧ q = f p := fun f j p q e1 e2 => by
    rw [List.getElem?_map, e1] at e2
    cases e2
    exact ⟨List.mem_of_getElem? e1, rfl⟩
  have l1 := L_led .fnA (.inl rfl) c (zc.mono (by decide)) ps (ps.map (mvp c)) ss (by omega) (by rw [List.length_map]) hS hsm2 (fun j p q e1 e2 => by obtain ⟨h1, rfl⟩ := led _ j p q e1 e2; exact led_mv cq q1 (by omega) zc (hC p h1))
  have l2 := L_led .fnB (.inr rfl) k (zk.mono (by decide)) ps (ps.map (stp k)) ss (by omega) (by rw [List.length_map]) hS hsm3 (fun j p q e1 e2 => by obtain ⟨h1, rfl⟩ := led _ j p q e1 e2; exact led_st k0 zk (hC p h1))
  refine ev_sifF (ev_orF (ev_notF (ev_fB (ev_call (ecz rfl (ecz rfl (ecz rfl (ecz rfl (ecz rfl rfl))))) (ev_gFV rfl rfl l1 rfl)) rfl)) (ev_notF (ev_fB (ev_call (ecz rfl (ecz rfl (ecz rfl (ecz rfl (ecz rfl rfl))))) (ev_gFV rfl rfl l2 rfl)) rfl))) (ev_snext ?_)
  have tm1 := L_times (-1) c ((show NB.Sz 2 (-1) from ⟨by decide, by decide⟩).mono (by decide)) (zc.mono (by decide))
  have en : (-1 : Rat) * c = -c := by grind
  rw [en] at tm1
  have cqn : (-c) * (q : Rat) = ((-t : Int) : Rat) := by rw [Rat.intCast_neg, ← cq]; grind
  have hmv2 := P_row_mv (-c) zc.neg (ps.map (mvp c)) (by rw [List.length_map]; omega) (fun p h => by
    obtain ⟨p0, h0, rfl⟩ := List.mem_map.mp h
    have hl7 := (hC p0 h0).2.2.2.1
    refine ⟨((z3 p0 h0).1.add zc).mono (by decide), ((z3 p0 h0).2.add zc).mono (by decide), ?_⟩
    refine P_moved (mvs c p0.2.2 p0.2.2.length) (-c) (by rw [mvs_len]; omega) (fun d hd j v hv => ?_) zc.neg
    rw [mvs_len] at hd
    have g := mvs_gz cq cb p0.2.2 (by omega) (hC p0 h0).2.2.2.2.2 p0.2.2.length
    have h1 := hsp_gz cqn (by omega) j (mvs (-c) (mvs c p0.2.2 p0.2.2.length) d) (by rw [mvs_len, mvs_len]; omega) (mvs_gz cqn (by omega) (mvs c p0.2.2 p0.2.2.length) (by rw [mvs_len]; omega) g d) v hv
    rw [Int.mul_assoc, Int.mul_assoc, ← Int.pow_add, ← Int.pow_add] at h1
    exact (h1.mono (n := 3000) (by omega)).sz (Int.mul_ne_zero D0_nz (Int.pow_ne_zero (by omega))) (Nat.lt_of_lt_of_le (DzD (by omega) _) (Nat.pow_le_pow_right (by decide) (by omega))))
  rw [mvp_back] at hmv2
  have kn : k.num ≠ 0 := fun z => k0 (Rat.num_eq_zero.mp z)
  have hnk := L_num (k.den : Int) k.num kn (Nat.lt_of_lt_of_le zk.1 (Nat.pow_le_pow_right (by decide) (by decide)))
  rw [← Rat.inv_def] at hnk
  have kip : 0 < k⁻¹ := Rat.inv_pos.mpr kp
  have hst2 := P_row_stretched k⁻¹ kip (zk.inv (by decide)) (ps.map (stp k)) (by rw [List.length_map]; omega) (fun p h => by
    obtain ⟨p0, h0, rfl⟩ := List.mem_map.mp h
    have hl7 := (hC p0 h0).2.2.2.1
    exact ⟨((z3 p0 h0).1.mul zk).mono (by decide), ((z3 p0 h0).2.mul zk).mono (by decide), by show (st k 1 p0.2.2).length ≤ 13; rw [st_len]; omega, fun v hv => (st_sz zk p0.2.2 hl7 (hC p0 h0).sz v hv).mono (by decide)⟩)
  rw [stp_back k k0] at hst2
  refine ev_sifF (ev_orF (ev_fB (ev_f2 (ev_call (ecz rfl (ecz (ev_call (ecz (ev_call (ecz (ev_fU rfl rfl) (ecz rfl rfl)) rfl) (ecz rfl rfl)) (ev_gF (ds := [nD (-1), nD c]) rfl rfl tm1 (outZ_num _))) rfl)) (ev_gF rfl rfl hmv2 (outZ_row _))) rfl (ne_row ps rfl)) rfl) (ev_fB (ev_f2 (ev_call (ecz rfl (ecz (ev_call (ecz (ev_f2 rfl rfl ix_t1) (ecz (ev_f2 rfl rfl ix_t0) rfl)) (ev_gF rfl rfl hnk (outZ_num _))) rfl)) (ev_gF rfl rfl hst2 (outZ_row _))) rfl (ne_row ps rfl)) rfl)) (ev_snext ?_)
  have tm2 := L_times (-1) k ((show NB.Sz 2 (-1) from ⟨by decide, by decide⟩).mono (by decide)) (zk.mono (by decide))
  have en2 : (-1 : Rat) * k = -k := by grind
  rw [en2] at tm2
  obtain ⟨kk, hkl, hix⟩ : ∃ kk : Rat, kk ≤ 0 ∧ gIx (.new [nD 0, nD (-k)]) (.dat (.int (c25 % 2))) = okM (.dat (nD kk)) := by
    have : c25 % 2 = 0 ∨ c25 % 2 = 1 := by omega
    rcases this with e | e
    · exact ⟨0, Rat.le_refl, by rw [e]; exact ix_new (j := 0) rfl rfl⟩
    · exact ⟨-k, by grind, by rw [e]; exact ix_new (j := 1) rfl rfl⟩
  refine ev_sifF (ev_notF (ev_fB (ev_call (ecz rfl (ecz (ev_f2 (x := .new [nD 0, nD (-k)]) (ev_call (ecz (ev_call (ecz rfl (ecz rfl rfl)) rfl) (ecz (ev_call (ecz (ev_call (ecz (ev_fU rfl rfl) (ecz rfl rfl)) rfl) (ecz rfl rfl)) (ev_gF (ds := [nD (-1), nD k]) rfl rfl tm2 (outZ_num _))) rfl)) rfl) (ev_f2 (ev_call (ecz rfl (ecz rfl rfl)) (ev_gF rfl rfl h25 rfl)) rfl (gModP (by decide))) hix) rfl)) (ev_gF rfl rfl (L_refused ps kk hkl) rfl)) rfl)) (ev_snext ?_)
  have pl1 := L_plain ps (by omega)
  have pl2 := P_plainest ps (by omega)
  have plen := pln_len ps
  have pl3 := P_plainest (pln ps) (by omega)
  rw [pln_pln] at pl3
  refine ev_sset (ev_call rfl (ev_gF rfl rfl pl1 (outZ_row _))) rfl (by walk_at "ss") ?_
  refine ev_sifF (ev_orF (ev_fB (ev_f2 (ev_call rfl (ev_gF rfl rfl pl2 (outZ_row _))) rfl (ne_row (pln ps) rfl)) rfl) (ev_fB (ev_f2 (ev_call rfl (ev_gF rfl rfl pl3 (outZ_row _))) rfl (ne_row (pln ps) rfl)) rfl)) (ev_snext ?_)
  have wo := row_wo (by omega) p8 hC hk
  have hlc1 : (fLC3 (fI itemsL (fVar 8)) (fCall (gF 2 F_row_worth) (fCons (fVar 10) (fCons (fVar 0) fNil)))) [.dat (scr ns), .dat (.int most), .dat (.tuple (ps.map pD)), .dat (nD c), .dat (nD k), .dat (.tuple ((ps.map (mvp c)).map pD)), .dat (.tuple ((ps.map (stp k)).map pD)), .dat (.tuple ((pln ps).map pD)), .dat (.list (ps.map pD)), .dat (.list ss)] = okM (.new ((ps.map fun p => ev p.2.2 p.1).map nD)) := by
    unfold fLC3
    rw [ev_fI (items := ps.map pD) rfl rfl, bnd_okM, if_pos (by rw [List.length_map]; omega), lc3_any (fun p => nD (ev p.2.2 p.1)) _ _ ps ?_]
    · rw [List.map_map]; rfl
    · exact fun p hp => ⟨_, ev_call (ecz rfl (ecz rfl rfl)) (ev_gF rfl rfl (wo p hp).2 (outZ_num _)), rfl⟩
  have hlc2 : (fLC3 (fI itemsL (fVar 8)) (fCall (gF 2 F_row_worth) (fCons (fVar 5) (fCons (fVar 0) fNil)))) [.dat (scr ns), .dat (.int most), .dat (.tuple (ps.map pD)), .dat (nD c), .dat (nD k), .dat (.tuple ((ps.map (mvp c)).map pD)), .dat (.tuple ((ps.map (stp k)).map pD)), .dat (.tuple ((pln ps).map pD)), .dat (.list (ps.map pD)), .dat (.list ss)] = okM (.new ((ps.map fun p => ev p.2.2 p.1).map nD)) := by
    unfold fLC3
    rw [ev_fI (items := ps.map pD) rfl rfl, bnd_okM, if_pos (by rw [List.length_map]; omega), lc3_any (fun p => nD (ev p.2.2 p.1)) _ _ ps ?_]
    · rw [List.map_map]; rfl
    · exact fun p hp => ⟨_, ev_call (ecz rfl (ecz rfl rfl)) (ev_gF rfl rfl (wo p hp).1 (outZ_num _)), rfl⟩
  refine ev_ret (ev_f2 hlc1 hlc2 (gEqD (b := true) (d := lD (ps.map fun p => ev p.2.2 p.1)) (e := lD (ps.map fun p => ev p.2.2 p.1)) rfl rfl (okD_lD _) (okD_lD _) (by rw [eqv_lD, decide_eq_true rfl]))) rfl
end Law
namespace Law
open PySem PySem.Spec PyProof.Rows L2 L3 D3
structure Raw [Ecx] (K : PySem.W.Frag) : Prop where
  k_MOST_PIECES : ∃ t, PySem.W.nsIn K mainGlobals "MOST_PIECES" = some (some (.int 8 t))
  n_NoPieces : PySem.W.nsIn K mainGlobals "NoPieces" = some (some (.ref (ecx .NoPieces)))
  q_NoPieces : PySem.W.excIn K (ecx .NoPieces) [.type "ValueError", .type "Exception", .type "BaseException", .type "object"] "ValueError.__new__" = true
  k_MOST_DEGREE : ∃ t, PySem.W.nsIn K mainGlobals "MOST_DEGREE" = some (some (.int 6 t))
  n_TooGreat : PySem.W.nsIn K mainGlobals "TooGreat" = some (some (.ref (ecx .TooGreat)))
  q_TooGreat : PySem.W.excIn K (ecx .TooGreat) [.type "ValueError", .type "Exception", .type "BaseException", .type "object"] "ValueError.__new__" = true
  n_NoNumber : PySem.W.nsIn K mainGlobals "NoNumber" = some (some (.ref (ecx .NoNumber)))
  q_NoNumber : PySem.W.excIn K (ecx .NoNumber) [.type "ValueError", .type "Exception", .type "BaseException", .type "object"] "ValueError.__new__" = true
  k_ONE : ∃ a t u od m sl, PySem.W.nsIn K mainGlobals "ONE" = some (some (.ref a)) ∧ K.lookup a = some ⟨.type "tuple", od, .seq #[.int 1 t, .int 1 u] m, sl⟩
  n_BelowError : PySem.W.nsIn K mainGlobals "BelowError" = some (some (.ref (ecx .BelowError)))
  n_NoStretch : PySem.W.nsIn K mainGlobals "NoStretch" = some (some (.ref (ecx .NoStretch)))
  ck_BelowError : CatchAll K (ecx .BelowError) (fun n => decide (n ∈ ([Ex.NoNumber, Ex.NoPieces, Ex.NoStretch, Ex.TooGreat] : List Ex)))
  n_NoCurve : PySem.W.nsIn K mainGlobals "NoCurve" = some (some (.ref (ecx .NoCurve)))
  n_NoName : PySem.W.nsIn K mainGlobals "NoName" = some (some (.ref (ecx .NoName)))
  n_NoNear : PySem.W.nsIn K mainGlobals "NoNear" = some (some (.ref (ecx .NoNear)))
  n_NoRow : PySem.W.nsIn K mainGlobals "NoRow" = some (some (.ref (ecx .NoRow)))
  n_NoText : PySem.W.nsIn K mainGlobals "NoText" = some (some (.ref (ecx .NoText)))
  ik0 : IsKs K [(.ref (ecx .NoCurve)), (.ref (ecx .NoName)), (.ref (ecx .NoNear)), (.ref (ecx .NoPieces)), (.ref (ecx .NoRow)), (.ref (ecx .NoStretch)), (.ref (ecx .NoText)), (.ref (ecx .TooGreat))] (ansL [(.exc .NoNumber, false), (.exc .NoPieces, true), (.exc .NoStretch, true), (.exc .TooGreat, true)])
  ik_NoNumber : IsK K (.ref (ecx .NoNumber)) (ansL [(.exc .NoNumber, true), (.exc .NoPieces, false), (.exc .NoStretch, false), (.exc .TooGreat, false)])
  ik_ValueError : IsK K (.ty "ValueError") (ansL [(.exc .NoNumber, true), (.exc .NoPieces, true), (.exc .NoStretch, true), (.exc .TooGreat, true)])
  k_MOST_NUMBERS : ∃ t, PySem.W.nsIn K mainGlobals "MOST_NUMBERS" = some (some (.int 13 t))
  k_NOUGHT : ∃ a t u od m sl, PySem.W.nsIn K mainGlobals "NOUGHT" = some (some (.ref a)) ∧ K.lookup a = some ⟨.type "tuple", od, .seq #[.int 0 t, .int 1 u] m, sl⟩
  ik_tuple : IsK K (.ty "tuple") (ansL [(.non, false), (.bl, false), (.int, false), (.lst, false), (.tup, true)])
  n__law_plus : PySem.W.nsIn K mainGlobals "_law_plus" = some (some (.ref (ecx .fnA)))
  n__law_times : PySem.W.nsIn K mainGlobals "_law_times" = some (some (.ref (ecx .fnB)))
  q_NoStretch : PySem.W.excIn K (ecx .NoStretch) [.type "ValueError", .type "Exception", .type "BaseException", .type "object"] "ValueError.__new__" = true
theorem raw_of [Ecx] {K : PySem.W.Frag} {t_MOST_PIECES : Tok} {t_MOST_DEGREE : Tok} {a_ONE : Addr} {t_ONE : Tok} {u_ONE : Tok} {od_ONE : Option Addr} {m_ONE : Nat} {sl_ONE : Array (Option Value)} {cd_BelowError : ClassData} {cd_NoNumber : ClassData} {cd_NoPieces : ClassData} {cd_NoStretch : ClassData} {cd_TooGreat : ClassData} {t_MOST_NUMBERS : Tok} {a_NOUGHT : Addr} {t_NOUGHT : Tok} {u_NOUGHT : Tok} {od_NOUGHT : Option Addr} {m_NOUGHT : Nat} {sl_NOUGHT : Array (Option Value)} (k_MOST_PIECES : PySem.W.nsIn K mainGlobals "MOST_PIECES" = some (some (.int 8 t_MOST_PIECES)))
    (n_NoPieces : PySem.W.nsIn K mainGlobals "NoPieces" = some (some (.ref (ecx .NoPieces))))
    (q_NoPieces : PySem.W.excIn K (ecx .NoPieces) [.type "ValueError", .type "Exception", .type "BaseException", .type "object"] "ValueError.__new__" = true)
    (k_MOST_DEGREE : PySem.W.nsIn K mainGlobals "MOST_DEGREE" = some (some (.int 6 t_MOST_DEGREE)))
    (n_TooGreat : PySem.W.nsIn K mainGlobals "TooGreat" = some (some (.ref (ecx .TooGreat))))
    (q_TooGreat : PySem.W.excIn K (ecx .TooGreat) [.type "ValueError", .type "Exception", .type "BaseException", .type "object"] "ValueError.__new__" = true)
    (n_NoNumber : PySem.W.nsIn K mainGlobals "NoNumber" = some (some (.ref (ecx .NoNumber))))
    (q_NoNumber : PySem.W.excIn K (ecx .NoNumber) [.type "ValueError", .type "Exception", .type "BaseException", .type "object"] "ValueError.__new__" = true)
    (k_ONE : PySem.W.nsIn K mainGlobals "ONE" = some (some (.ref a_ONE)))
    (l_ONE : K.lookup a_ONE = some ⟨.type "tuple", od_ONE, .seq #[.int 1 t_ONE, .int 1 u_ONE] m_ONE, sl_ONE⟩)
    (n_BelowError : PySem.W.nsIn K mainGlobals "BelowError" = some (some (.ref (ecx .BelowError))))
    (t1_BelowError : PySem.W.typeIn K (.ref (ecx .BelowError)) = some (.type "type"))
    (x1_BelowError : PySem.W.clsIn K (ecx .BelowError) = some cd_BelowError)
    (x6_BelowError : PySem.W.subIn K (.ref (ecx .BelowError)) (.type "BaseException") = some true)
    (s_NoNumber_BelowError : PySem.W.subIn K (.ref (ecx .NoNumber)) (.ref (ecx .BelowError)) = some true)
    (s_NoPieces_BelowError : PySem.W.subIn K (.ref (ecx .NoPieces)) (.ref (ecx .BelowError)) = some true)
    (n_NoStretch : PySem.W.nsIn K mainGlobals "NoStretch" = some (some (.ref (ecx .NoStretch))))
    (s_NoStretch_BelowError : PySem.W.subIn K (.ref (ecx .NoStretch)) (.ref (ecx .BelowError)) = some true)
    (s_TooGreat_BelowError : PySem.W.subIn K (.ref (ecx .TooGreat)) (.ref (ecx .BelowError)) = some true)
    (n_NoCurve : PySem.W.nsIn K mainGlobals "NoCurve" = some (some (.ref (ecx .NoCurve))))
    (n_NoName : PySem.W.nsIn K mainGlobals "NoName" = some (some (.ref (ecx .NoName))))
    (n_NoNear : PySem.W.nsIn K mainGlobals "NoNear" = some (some (.ref (ecx .NoNear))))
    (n_NoRow : PySem.W.nsIn K mainGlobals "NoRow" = some (some (.ref (ecx .NoRow))))
    (n_NoText : PySem.W.nsIn K mainGlobals "NoText" = some (some (.ref (ecx .NoText))))
    (ik0_0 : PySem.W.kitAny K (.ref (ecx .NoNumber)) [.ref (ecx .NoCurve), .ref (ecx .NoName), .ref (ecx .NoNear), .ref (ecx .NoPieces), .ref (ecx .NoRow), .ref (ecx .NoStretch), .ref (ecx .NoText), .ref (ecx .TooGreat)] = some false)
    (x1_NoNumber : PySem.W.clsIn K (ecx .NoNumber) = some cd_NoNumber)
    (x2_NoNumber : PySem.W.findIn K (.ref (ecx .NoNumber)) "__getattribute__" = some (some (.builtin "BaseException.__getattribute__")))
    (x3_NoNumber : PySem.W.findIn K (.ref (ecx .NoNumber)) "__getattr__" = some none)
    (x4_NoNumber : PySem.W.findIn K (.ref (ecx .NoNumber)) "__class__" = some (some (.builtin "object.__class__")))
    (x5_NoNumber : PySem.W.subIn K (.ref (ecx .NoNumber)) (.type "object") = some true)
    (x6_NoNumber : PySem.W.subIn K (.ref (ecx .NoNumber)) (.type "BaseException") = some true)
    (ik0_1 : PySem.W.kitAny K (.ref (ecx .NoPieces)) [.ref (ecx .NoCurve), .ref (ecx .NoName), .ref (ecx .NoNear), .ref (ecx .NoPieces), .ref (ecx .NoRow), .ref (ecx .NoStretch), .ref (ecx .NoText), .ref (ecx .TooGreat)] = some true)
    (x1_NoPieces : PySem.W.clsIn K (ecx .NoPieces) = some cd_NoPieces)
    (x2_NoPieces : PySem.W.findIn K (.ref (ecx .NoPieces)) "__getattribute__" = some (some (.builtin "BaseException.__getattribute__")))
    (x3_NoPieces : PySem.W.findIn K (.ref (ecx .NoPieces)) "__getattr__" = some none)
    (x4_NoPieces : PySem.W.findIn K (.ref (ecx .NoPieces)) "__class__" = some (some (.builtin "object.__class__")))
    (x5_NoPieces : PySem.W.subIn K (.ref (ecx .NoPieces)) (.type "object") = some true)
    (x6_NoPieces : PySem.W.subIn K (.ref (ecx .NoPieces)) (.type "BaseException") = some true)
    (ik0_2 : PySem.W.kitAny K (.ref (ecx .NoStretch)) [.ref (ecx .NoCurve), .ref (ecx .NoName), .ref (ecx .NoNear), .ref (ecx .NoPieces), .ref (ecx .NoRow), .ref (ecx .NoStretch), .ref (ecx .NoText), .ref (ecx .TooGreat)] = some true)
    (x1_NoStretch : PySem.W.clsIn K (ecx .NoStretch) = some cd_NoStretch)
    (x2_NoStretch : PySem.W.findIn K (.ref (ecx .NoStretch)) "__getattribute__" = some (some (.builtin "BaseException.__getattribute__")))
    (x3_NoStretch : PySem.W.findIn K (.ref (ecx .NoStretch)) "__getattr__" = some none)
    (x4_NoStretch : PySem.W.findIn K (.ref (ecx .NoStretch)) "__class__" = some (some (.builtin "object.__class__")))
    (x5_NoStretch : PySem.W.subIn K (.ref (ecx .NoStretch)) (.type "object") = some true)
    (x6_NoStretch : PySem.W.subIn K (.ref (ecx .NoStretch)) (.type "BaseException") = some true)
    (ik0_3 : PySem.W.kitAny K (.ref (ecx .TooGreat)) [.ref (ecx .NoCurve), .ref (ecx .NoName), .ref (ecx .NoNear), .ref (ecx .NoPieces), .ref (ecx .NoRow), .ref (ecx .NoStretch), .ref (ecx .NoText), .ref (ecx .TooGreat)] = some true)
    (x1_TooGreat : PySem.W.clsIn K (ecx .TooGreat) = some cd_TooGreat)
    (x2_TooGreat : PySem.W.findIn K (.ref (ecx .TooGreat)) "__getattribute__" = some (some (.builtin "BaseException.__getattribute__")))
    (x3_TooGreat : PySem.W.findIn K (.ref (ecx .TooGreat)) "__getattr__" = some none)
    (x4_TooGreat : PySem.W.findIn K (.ref (ecx .TooGreat)) "__class__" = some (some (.builtin "object.__class__")))
    (x5_TooGreat : PySem.W.subIn K (.ref (ecx .TooGreat)) (.type "object") = some true)
    (x6_TooGreat : PySem.W.subIn K (.ref (ecx .TooGreat)) (.type "BaseException") = some true)
    (ik_NoNumber_0 : PySem.W.kitOne K (.ref (ecx .NoNumber)) (.ref (ecx .NoNumber)) = some true)
    (ik_NoNumber_1 : PySem.W.kitOne K (.ref (ecx .NoPieces)) (.ref (ecx .NoNumber)) = some false)
    (ik_NoNumber_2 : PySem.W.kitOne K (.ref (ecx .NoStretch)) (.ref (ecx .NoNumber)) = some false)
    (ik_NoNumber_3 : PySem.W.kitOne K (.ref (ecx .TooGreat)) (.ref (ecx .NoNumber)) = some false)
    (ik_ValueError_0 : PySem.W.kitOne K (.ref (ecx .NoNumber)) (.type "ValueError") = some true)
    (ik_ValueError_1 : PySem.W.kitOne K (.ref (ecx .NoPieces)) (.type "ValueError") = some true)
    (ik_ValueError_2 : PySem.W.kitOne K (.ref (ecx .NoStretch)) (.type "ValueError") = some true)
    (ik_ValueError_3 : PySem.W.kitOne K (.ref (ecx .TooGreat)) (.type "ValueError") = some true)
    (k_MOST_NUMBERS : PySem.W.nsIn K mainGlobals "MOST_NUMBERS" = some (some (.int 13 t_MOST_NUMBERS)))
    (k_NOUGHT : PySem.W.nsIn K mainGlobals "NOUGHT" = some (some (.ref a_NOUGHT)))
    (l_NOUGHT : K.lookup a_NOUGHT = some ⟨.type "tuple", od_NOUGHT, .seq #[.int 0 t_NOUGHT, .int 1 u_NOUGHT] m_NOUGHT, sl_NOUGHT⟩)
    (ik_tuple_0 : PySem.W.kitOne K (.type "NoneType") (.type "tuple") = some false)
    (ik_tuple_1 : PySem.W.kitOne K (.type "bool") (.type "tuple") = some false)
    (ik_tuple_2 : PySem.W.kitOne K (.type "int") (.type "tuple") = some false)
    (ik_tuple_3 : PySem.W.kitOne K (.type "list") (.type "tuple") = some false)
    (ik_tuple_4 : PySem.W.kitOne K (.type "tuple") (.type "tuple") = some true)
    (n__law_plus : PySem.W.nsIn K mainGlobals "_law_plus" = some (some (.ref (ecx .fnA))))
    (n__law_times : PySem.W.nsIn K mainGlobals "_law_times" = some (some (.ref (ecx .fnB))))
    (q_NoStretch : PySem.W.excIn K (ecx .NoStretch) [.type "ValueError", .type "Exception", .type "BaseException", .type "object"] "ValueError.__new__" = true) : Raw K := by
  constructor
  case k_MOST_PIECES => exact ⟨_, k_MOST_PIECES⟩
  case n_NoPieces => exact n_NoPieces
  case q_NoPieces => exact q_NoPieces
  case k_MOST_DEGREE => exact ⟨_, k_MOST_DEGREE⟩
  case n_TooGreat => exact n_TooGreat
  case q_TooGreat => exact q_TooGreat
  case n_NoNumber => exact n_NoNumber
  case q_NoNumber => exact q_NoNumber
  case k_ONE => exact ⟨_, _, _, _, _, _, k_ONE, l_ONE⟩
  case n_BelowError => exact n_BelowError
  case n_NoStretch => exact n_NoStretch
  case ck_BelowError => exact catch_of (by intro n hn; exact (fun hh => (List.mem_cons.mp hh).elim (fun e => by subst e; exact ⟨t1_BelowError, by rw [x1_BelowError]; rfl, x6_BelowError, s_NoNumber_BelowError⟩) (fun hh => (List.mem_cons.mp hh).elim (fun e => by subst e; exact ⟨t1_BelowError, by rw [x1_BelowError]; rfl, x6_BelowError, s_NoPieces_BelowError⟩) (fun hh => (List.mem_cons.mp hh).elim (fun e => by subst e; exact ⟨t1_BelowError, by rw [x1_BelowError]; rfl, x6_BelowError, s_NoStretch_BelowError⟩) (fun hh => (List.mem_cons.mp hh).elim (fun e => by subst e; exact ⟨t1_BelowError, by rw [x1_BelowError]; rfl, x6_BelowError, s_TooGreat_BelowError⟩) (fun hh => nomatch hh))))) hn)
  case n_NoCurve => exact n_NoCurve
  case n_NoName => exact n_NoName
  case n_NoNear => exact n_NoNear
  case n_NoRow => exact n_NoRow
  case n_NoText => exact n_NoText
  case ik0 => exact isKs_of (by intro c hc; exact (fun hh => (List.mem_cons.mp hh).elim (fun e => by subst e; exact rfl) (fun hh => (List.mem_cons.mp hh).elim (fun e => by subst e; exact rfl) (fun hh => (List.mem_cons.mp hh).elim (fun e => by subst e; exact rfl) (fun hh => (List.mem_cons.mp hh).elim (fun e => by subst e; exact rfl) (fun hh => (List.mem_cons.mp hh).elim (fun e => by subst e; exact rfl) (fun hh => (List.mem_cons.mp hh).elim (fun e => by subst e; exact rfl) (fun hh => (List.mem_cons.mp hh).elim (fun e => by subst e; exact rfl) (fun hh => (List.mem_cons.mp hh).elim (fun e => by subst e; exact rfl) (fun hh => nomatch hh))))))))) hc) (by intro p hp; exact (fun hh => (List.mem_cons.mp hh).elim (fun e => by subst e; exact ⟨ik0_0, fun n e => by cases e; exact ⟨by rw [x1_NoNumber]; rfl, x2_NoNumber, x3_NoNumber, x4_NoNumber, x5_NoNumber, x6_NoNumber⟩⟩) (fun hh => (List.mem_cons.mp hh).elim (fun e => by subst e; exact ⟨ik0_1, fun n e => by cases e; exact ⟨by rw [x1_NoPieces]; rfl, x2_NoPieces, x3_NoPieces, x4_NoPieces, x5_NoPieces, x6_NoPieces⟩⟩) (fun hh => (List.mem_cons.mp hh).elim (fun e => by subst e; exact ⟨ik0_2, fun n e => by cases e; exact ⟨by rw [x1_NoStretch]; rfl, x2_NoStretch, x3_NoStretch, x4_NoStretch, x5_NoStretch, x6_NoStretch⟩⟩) (fun hh => (List.mem_cons.mp hh).elim (fun e => by subst e; exact ⟨ik0_3, fun n e => by cases e; exact ⟨by rw [x1_TooGreat]; rfl, x2_TooGreat, x3_TooGreat, x4_TooGreat, x5_TooGreat, x6_TooGreat⟩⟩) (fun hh => nomatch hh))))) hp)
  case ik_NoNumber => exact isK_of rfl (by intro p hp; exact (fun hh => (List.mem_cons.mp hh).elim (fun e => by subst e; exact ⟨ik_NoNumber_0, fun n e => by cases e; exact ⟨by rw [x1_NoNumber]; rfl, x2_NoNumber, x3_NoNumber, x4_NoNumber, x5_NoNumber, x6_NoNumber⟩⟩) (fun hh => (List.mem_cons.mp hh).elim (fun e => by subst e; exact ⟨ik_NoNumber_1, fun n e => by cases e; exact ⟨by rw [x1_NoPieces]; rfl, x2_NoPieces, x3_NoPieces, x4_NoPieces, x5_NoPieces, x6_NoPieces⟩⟩) (fun hh => (List.mem_cons.mp hh).elim (fun e => by subst e; exact ⟨ik_NoNumber_2, fun n e => by cases e; exact ⟨by rw [x1_NoStretch]; rfl, x2_NoStretch, x3_NoStretch, x4_NoStretch, x5_NoStretch, x6_NoStretch⟩⟩) (fun hh => (List.mem_cons.mp hh).elim (fun e => by subst e; exact ⟨ik_NoNumber_3, fun n e => by cases e; exact ⟨by rw [x1_TooGreat]; rfl, x2_TooGreat, x3_TooGreat, x4_TooGreat, x5_TooGreat, x6_TooGreat⟩⟩) (fun hh => nomatch hh))))) hp)
  case ik_ValueError => exact isK_of rfl (by intro p hp; exact (fun hh => (List.mem_cons.mp hh).elim (fun e => by subst e; exact ⟨ik_ValueError_0, fun n e => by cases e; exact ⟨by rw [x1_NoNumber]; rfl, x2_NoNumber, x3_NoNumber, x4_NoNumber, x5_NoNumber, x6_NoNumber⟩⟩) (fun hh => (List.mem_cons.mp hh).elim (fun e => by subst e; exact ⟨ik_ValueError_1, fun n e => by cases e; exact ⟨by rw [x1_NoPieces]; rfl, x2_NoPieces, x3_NoPieces, x4_NoPieces, x5_NoPieces, x6_NoPieces⟩⟩) (fun hh => (List.mem_cons.mp hh).elim (fun e => by subst e; exact ⟨ik_ValueError_2, fun n e => by cases e; exact ⟨by rw [x1_NoStretch]; rfl, x2_NoStretch, x3_NoStretch, x4_NoStretch, x5_NoStretch, x6_NoStretch⟩⟩) (fun hh => (List.mem_cons.mp hh).elim (fun e => by subst e; exact ⟨ik_ValueError_3, fun n e => by cases e; exact ⟨by rw [x1_TooGreat]; rfl, x2_TooGreat, x3_TooGreat, x4_TooGreat, x5_TooGreat, x6_TooGreat⟩⟩) (fun hh => nomatch hh))))) hp)
  case k_MOST_NUMBERS => exact ⟨_, k_MOST_NUMBERS⟩
  case k_NOUGHT => exact ⟨_, _, _, _, _, _, k_NOUGHT, l_NOUGHT⟩
  case ik_tuple => exact isK_of rfl (by intro p hp; exact (fun hh => (List.mem_cons.mp hh).elim (fun e => by subst e; exact ⟨ik_tuple_0, fun n e => nomatch e⟩) (fun hh => (List.mem_cons.mp hh).elim (fun e => by subst e; exact ⟨ik_tuple_1, fun n e => nomatch e⟩) (fun hh => (List.mem_cons.mp hh).elim (fun e => by subst e; exact ⟨ik_tuple_2, fun n e => nomatch e⟩) (fun hh => (List.mem_cons.mp hh).elim (fun e => by subst e; exact ⟨ik_tuple_3, fun n e => nomatch e⟩) (fun hh => (List.mem_cons.mp hh).elim (fun e => by subst e; exact ⟨ik_tuple_4, fun n e => nomatch e⟩) (fun hh => nomatch hh)))))) hp)
  case n__law_plus => exact n__law_plus
  case n__law_times => exact n__law_times
  case q_NoStretch => exact q_NoStretch
theorem raw_mk {K : PySem.W.Frag} {C_NoPieces : Addr} {C_TooGreat : Addr} {C_NoNumber : Addr} {C_BelowError : Addr} {C_NoStretch : Addr} {C_NoCurve : Addr} {C_NoName : Addr} {C_NoNear : Addr} {C_NoRow : Addr} {C_NoText : Addr} {C_fnA : Addr} {C_fnB : Addr} {t_MOST_PIECES : Tok} {t_MOST_DEGREE : Tok} {a_ONE : Addr} {t_ONE : Tok} {u_ONE : Tok} {od_ONE : Option Addr} {m_ONE : Nat} {sl_ONE : Array (Option Value)} {cd_BelowError : ClassData} {cd_NoNumber : ClassData} {cd_NoPieces : ClassData} {cd_NoStretch : ClassData} {cd_TooGreat : ClassData} {t_MOST_NUMBERS : Tok} {a_NOUGHT : Addr} {t_NOUGHT : Tok} {u_NOUGHT : Tok} {od_NOUGHT : Option Addr} {m_NOUGHT : Nat} {sl_NOUGHT : Array (Option Value)} (k_MOST_PIECES : PySem.W.nsIn K mainGlobals "MOST_PIECES" = some (some (.int 8 t_MOST_PIECES)))
    (n_NoPieces : PySem.W.nsIn K mainGlobals "NoPieces" = some (some (.ref C_NoPieces)))
    (q_NoPieces : PySem.W.excIn K C_NoPieces [.type "ValueError", .type "Exception", .type "BaseException", .type "object"] "ValueError.__new__" = true)
    (k_MOST_DEGREE : PySem.W.nsIn K mainGlobals "MOST_DEGREE" = some (some (.int 6 t_MOST_DEGREE)))
    (n_TooGreat : PySem.W.nsIn K mainGlobals "TooGreat" = some (some (.ref C_TooGreat)))
    (q_TooGreat : PySem.W.excIn K C_TooGreat [.type "ValueError", .type "Exception", .type "BaseException", .type "object"] "ValueError.__new__" = true)
    (n_NoNumber : PySem.W.nsIn K mainGlobals "NoNumber" = some (some (.ref C_NoNumber)))
    (q_NoNumber : PySem.W.excIn K C_NoNumber [.type "ValueError", .type "Exception", .type "BaseException", .type "object"] "ValueError.__new__" = true)
    (k_ONE : PySem.W.nsIn K mainGlobals "ONE" = some (some (.ref a_ONE)))
    (l_ONE : K.lookup a_ONE = some ⟨.type "tuple", od_ONE, .seq #[.int 1 t_ONE, .int 1 u_ONE] m_ONE, sl_ONE⟩)
    (n_BelowError : PySem.W.nsIn K mainGlobals "BelowError" = some (some (.ref C_BelowError)))
    (t1_BelowError : PySem.W.typeIn K (.ref C_BelowError) = some (.type "type"))
    (x1_BelowError : PySem.W.clsIn K C_BelowError = some cd_BelowError)
    (x6_BelowError : PySem.W.subIn K (.ref C_BelowError) (.type "BaseException") = some true)
    (s_NoNumber_BelowError : PySem.W.subIn K (.ref C_NoNumber) (.ref C_BelowError) = some true)
    (s_NoPieces_BelowError : PySem.W.subIn K (.ref C_NoPieces) (.ref C_BelowError) = some true)
    (n_NoStretch : PySem.W.nsIn K mainGlobals "NoStretch" = some (some (.ref C_NoStretch)))
    (s_NoStretch_BelowError : PySem.W.subIn K (.ref C_NoStretch) (.ref C_BelowError) = some true)
    (s_TooGreat_BelowError : PySem.W.subIn K (.ref C_TooGreat) (.ref C_BelowError) = some true)
    (n_NoCurve : PySem.W.nsIn K mainGlobals "NoCurve" = some (some (.ref C_NoCurve)))
    (n_NoName : PySem.W.nsIn K mainGlobals "NoName" = some (some (.ref C_NoName)))
    (n_NoNear : PySem.W.nsIn K mainGlobals "NoNear" = some (some (.ref C_NoNear)))
    (n_NoRow : PySem.W.nsIn K mainGlobals "NoRow" = some (some (.ref C_NoRow)))
    (n_NoText : PySem.W.nsIn K mainGlobals "NoText" = some (some (.ref C_NoText)))
    (ik0_0 : PySem.W.kitAny K (.ref C_NoNumber) [.ref C_NoCurve, .ref C_NoName, .ref C_NoNear, .ref C_NoPieces, .ref C_NoRow, .ref C_NoStretch, .ref C_NoText, .ref C_TooGreat] = some false)
    (x1_NoNumber : PySem.W.clsIn K C_NoNumber = some cd_NoNumber)
    (x2_NoNumber : PySem.W.findIn K (.ref C_NoNumber) "__getattribute__" = some (some (.builtin "BaseException.__getattribute__")))
    (x3_NoNumber : PySem.W.findIn K (.ref C_NoNumber) "__getattr__" = some none)
    (x4_NoNumber : PySem.W.findIn K (.ref C_NoNumber) "__class__" = some (some (.builtin "object.__class__")))
    (x5_NoNumber : PySem.W.subIn K (.ref C_NoNumber) (.type "object") = some true)
    (x6_NoNumber : PySem.W.subIn K (.ref C_NoNumber) (.type "BaseException") = some true)
    (ik0_1 : PySem.W.kitAny K (.ref C_NoPieces) [.ref C_NoCurve, .ref C_NoName, .ref C_NoNear, .ref C_NoPieces, .ref C_NoRow, .ref C_NoStretch, .ref C_NoText, .ref C_TooGreat] = some true)
    (x1_NoPieces : PySem.W.clsIn K C_NoPieces = some cd_NoPieces)
    (x2_NoPieces : PySem.W.findIn K (.ref C_NoPieces) "__getattribute__" = some (some (.builtin "BaseException.__getattribute__")))
    (x3_NoPieces : PySem.W.findIn K (.ref C_NoPieces) "__getattr__" = some none)
    (x4_NoPieces : PySem.W.findIn K (.ref C_NoPieces) "__class__" = some (some (.builtin "object.__class__")))
    (x5_NoPieces : PySem.W.subIn K (.ref C_NoPieces) (.type "object") = some true)
    (x6_NoPieces : PySem.W.subIn K (.ref C_NoPieces) (.type "BaseException") = some true)
    (ik0_2 : PySem.W.kitAny K (.ref C_NoStretch) [.ref C_NoCurve, .ref C_NoName, .ref C_NoNear, .ref C_NoPieces, .ref C_NoRow, .ref C_NoStretch, .ref C_NoText, .ref C_TooGreat] = some true)
    (x1_NoStretch : PySem.W.clsIn K C_NoStretch = some cd_NoStretch)
    (x2_NoStretch : PySem.W.findIn K (.ref C_NoStretch) "__getattribute__" = some (some (.builtin "BaseException.__getattribute__")))
    (x3_NoStretch : PySem.W.findIn K (.ref C_NoStretch) "__getattr__" = some none)
    (x4_NoStretch : PySem.W.findIn K (.ref C_NoStretch) "__class__" = some (some (.builtin "object.__class__")))
    (x5_NoStretch : PySem.W.subIn K (.ref C_NoStretch) (.type "object") = some true)
    (x6_NoStretch : PySem.W.subIn K (.ref C_NoStretch) (.type "BaseException") = some true)
    (ik0_3 : PySem.W.kitAny K (.ref C_TooGreat) [.ref C_NoCurve, .ref C_NoName, .ref C_NoNear, .ref C_NoPieces, .ref C_NoRow, .ref C_NoStretch, .ref C_NoText, .ref C_TooGreat] = some true)
    (x1_TooGreat : PySem.W.clsIn K C_TooGreat = some cd_TooGreat)
    (x2_TooGreat : PySem.W.findIn K (.ref C_TooGreat) "__getattribute__" = some (some (.builtin "BaseException.__getattribute__")))
    (x3_TooGreat : PySem.W.findIn K (.ref C_TooGreat) "__getattr__" = some none)
    (x4_TooGreat : PySem.W.findIn K (.ref C_TooGreat) "__class__" = some (some (.builtin "object.__class__")))
    (x5_TooGreat : PySem.W.subIn K (.ref C_TooGreat) (.type "object") = some true)
    (x6_TooGreat : PySem.W.subIn K (.ref C_TooGreat) (.type "BaseException") = some true)
    (ik_NoNumber_0 : PySem.W.kitOne K (.ref C_NoNumber) (.ref C_NoNumber) = some true)
    (ik_NoNumber_1 : PySem.W.kitOne K (.ref C_NoPieces) (.ref C_NoNumber) = some false)
    (ik_NoNumber_2 : PySem.W.kitOne K (.ref C_NoStretch) (.ref C_NoNumber) = some false)
    (ik_NoNumber_3 : PySem.W.kitOne K (.ref C_TooGreat) (.ref C_NoNumber) = some false)
    (ik_ValueError_0 : PySem.W.kitOne K (.ref C_NoNumber) (.type "ValueError") = some true)
    (ik_ValueError_1 : PySem.W.kitOne K (.ref C_NoPieces) (.type "ValueError") = some true)
    (ik_ValueError_2 : PySem.W.kitOne K (.ref C_NoStretch) (.type "ValueError") = some true)
    (ik_ValueError_3 : PySem.W.kitOne K (.ref C_TooGreat) (.type "ValueError") = some true)
    (k_MOST_NUMBERS : PySem.W.nsIn K mainGlobals "MOST_NUMBERS" = some (some (.int 13 t_MOST_NUMBERS)))
    (k_NOUGHT : PySem.W.nsIn K mainGlobals "NOUGHT" = some (some (.ref a_NOUGHT)))
    (l_NOUGHT : K.lookup a_NOUGHT = some ⟨.type "tuple", od_NOUGHT, .seq #[.int 0 t_NOUGHT, .int 1 u_NOUGHT] m_NOUGHT, sl_NOUGHT⟩)
    (ik_tuple_0 : PySem.W.kitOne K (.type "NoneType") (.type "tuple") = some false)
    (ik_tuple_1 : PySem.W.kitOne K (.type "bool") (.type "tuple") = some false)
    (ik_tuple_2 : PySem.W.kitOne K (.type "int") (.type "tuple") = some false)
    (ik_tuple_3 : PySem.W.kitOne K (.type "list") (.type "tuple") = some false)
    (ik_tuple_4 : PySem.W.kitOne K (.type "tuple") (.type "tuple") = some true)
    (n__law_plus : PySem.W.nsIn K mainGlobals "_law_plus" = some (some (.ref C_fnA)))
    (n__law_times : PySem.W.nsIn K mainGlobals "_law_times" = some (some (.ref C_fnB)))
    (q_NoStretch : PySem.W.excIn K C_NoStretch [.type "ValueError", .type "Exception", .type "BaseException", .type "object"] "ValueError.__new__" = true) : ∃ I : Ecx, @Raw I K :=
  ⟨⟨fun e => match e with | .NoPieces => C_NoPieces | .TooGreat => C_TooGreat | .NoNumber => C_NoNumber | .BelowError => C_BelowError | .NoStretch => C_NoStretch | .NoCurve => C_NoCurve | .NoName => C_NoName | .NoNear => C_NoNear | .NoRow => C_NoRow | .NoText => C_NoText | .fnA => C_fnA | .fnB => C_fnB⟩, @raw_of ⟨fun e => match e with | .NoPieces => C_NoPieces | .TooGreat => C_TooGreat | .NoNumber => C_NoNumber | .BelowError => C_BelowError | .NoStretch => C_NoStretch | .NoCurve => C_NoCurve | .NoName => C_NoName | .NoNear => C_NoNear | .NoRow => C_NoRow | .NoText => C_NoText | .fnA => C_fnA | .fnB => C_fnB⟩ K _ _ _ _ _ _ _ _ _ _ _ _ _ _ _ _ _ _ _ _ k_MOST_PIECES n_NoPieces q_NoPieces k_MOST_DEGREE n_TooGreat q_TooGreat n_NoNumber q_NoNumber k_ONE l_ONE n_BelowError t1_BelowError x1_BelowError x6_BelowError s_NoNumber_BelowError s_NoPieces_BelowError n_NoStretch s_NoStretch_BelowError s_TooGreat_BelowError n_NoCurve n_NoName n_NoNear n_NoRow n_NoText ik0_0 x1_NoNumber x2_NoNumber x3_NoNumber x4_NoNumber x5_NoNumber x6_NoNumber ik0_1 x1_NoPieces x2_NoPieces x3_NoPieces x4_NoPieces x5_NoPieces x6_NoPieces ik0_2 x1_NoStretch x2_NoStretch x3_NoStretch x4_NoStretch x5_NoStretch x6_NoStretch ik0_3 x1_TooGreat x2_TooGreat x3_TooGreat x4_TooGreat x5_TooGreat x6_TooGreat ik_NoNumber_0 ik_NoNumber_1 ik_NoNumber_2 ik_NoNumber_3 ik_ValueError_0 ik_ValueError_1 ik_ValueError_2 ik_ValueError_3 k_MOST_NUMBERS k_NOUGHT l_NOUGHT ik_tuple_0 ik_tuple_1 ik_tuple_2 ik_tuple_3 ik_tuple_4 n__law_plus n__law_times q_NoStretch⟩
theorem facts_of [Ecx] {K : PySem.W.Frag} {mg : Str → Option Value} {h : Heap} (R : Raw K) (X : K.In h) (G : h.Ns mainGlobals mg) (m_list : mg "list" = none) (m_tuple : mg "tuple" = none) (m_len : mg "len" = none) (m_abs : mg "abs" = none) (m_max : mg "max" = none) (m_range : mg "range" = none) (m_min : mg "min" = none) (m_all : mg "all" = none) (m_any : mg "any" = none) (m_isinstance : mg "isinstance" = none) (m_ValueError : mg "ValueError" = none) (m_reversed : mg "reversed" = none) (m_int : mg "int" = none) : Facts K mg := by
  refine Facts.mk ?g0 ?g1 ?g2 ?g3 ?g4 ?g5 ?g6 ?g7 ?g8 ?g9 ?g10 ?g11 ?g12 ?g13 ?g14 ?g15 ?g16 ?g17 ?g18 ?g19 ?g20 ?g21 ?g22 ?g23 ?g24 ?g25 ?g26 ?g27 ?g28 ?g29 ?g30 ?g31 ?g32 ?g33 ?g34 ?g35 ?g36 ?g37 ?g38
  case g0 => exact m_list
  case g1 => exact m_tuple
  case g2 => exact m_len
  case g3 => exact m_abs
  case g4 => exact m_max
  case g5 => exact m_range
  case g6 => exact m_min
  case g7 => (obtain ⟨t, e⟩ := R.k_MOST_PIECES; exact hasC_int (PySem.W.mg_of X G e))
  case g8 => exact PySem.W.mg_of X G R.n_NoPieces
  case g9 => exact R.q_NoPieces
  case g10 => exact m_all
  case g11 => (obtain ⟨t, e⟩ := R.k_MOST_DEGREE; exact hasC_int (PySem.W.mg_of X G e))
  case g12 => exact m_any
  case g13 => exact PySem.W.mg_of X G R.n_TooGreat
  case g14 => exact R.q_TooGreat
  case g15 => exact PySem.W.mg_of X G R.n_NoNumber
  case g16 => exact R.q_NoNumber
  case g17 => (obtain ⟨a, t, u, od, m, sl, e, l⟩ := R.k_ONE; exact hasC_pair (PySem.W.mg_of X G e) l)
  case g18 => exact PySem.W.mg_of X G R.n_BelowError
  case g19 => exact R.ck_BelowError
  case g20 => exact m_isinstance
  case g21 => exact PySem.W.mg_of X G R.n_NoCurve
  case g22 => exact PySem.W.mg_of X G R.n_NoName
  case g23 => exact PySem.W.mg_of X G R.n_NoNear
  case g24 => exact PySem.W.mg_of X G R.n_NoRow
  case g25 => exact PySem.W.mg_of X G R.n_NoStretch
  case g26 => exact PySem.W.mg_of X G R.n_NoText
  case g27 => exact R.ik0
  case g28 => exact R.ik_NoNumber
  case g29 => exact m_ValueError
  case g30 => exact R.ik_ValueError
  case g31 => (obtain ⟨t, e⟩ := R.k_MOST_NUMBERS; exact hasC_int (PySem.W.mg_of X G e))
  case g32 => (obtain ⟨a, t, u, od, m, sl, e, l⟩ := R.k_NOUGHT; exact hasC_pair (PySem.W.mg_of X G e) l)
  case g33 => exact m_reversed
  case g34 => exact R.ik_tuple
  case g35 => exact PySem.W.mg_of X G R.n__law_plus
  case g36 => exact PySem.W.mg_of X G R.n__law_times
  case g37 => exact R.q_NoStretch
  case g38 => exact m_int
end Law
def PySem.W.Fast.tw2658876120482221160 : Unit := ()
def PySem.W.Fast.tw3586556868464264491 : Unit := ()
def PySem.W.Fast.tw1818764304477666924 : Unit := ()
def PySem.W.Fast.tw5685708719140191488 : Unit := ()
def PySem.W.Fast.tw11285589163684329367 : Unit := ()
def PySem.W.Fast.tw2382570336978728089 : Unit := ()
def PySem.W.Fast.tw8305157044365648745 : Unit := ()
def PySem.W.Fast.tw2535117577640037229 : Unit := ()
open PySem PySem.W PyProof.Rows L2 L3 D3 Law
abbrev PG := PySem.Challenge.rw_neverbelow_k53_rows_moved_stretched_plai.prog
set_option maxRecDepth 100000 in
set_option maxHeartbeats 0 in
theorem PySem.Challenge.cw_neverbelow_k53_rows_moved_stretched_plai_holds : PySem.Challenge.rw_neverbelow_k53_rows_moved_stretched_plai.Holds := by
  w_on; o_law; k_head; (case hw => w_witness2)
  k_fill
  refine L3.walkL (l := PySem.Challenge.rw_neverbelow_k53_rows_moved_stretched_plai) rfl rfl (fun w h Y => PySem.W.kIn_of Y) ?F
  case F =>
    intro w mg fa h KX G hmg
    have DL_clean : L3.HasDef (L2.KOf KX) "_law_clean" sL_clean := by
      dsimp only [L2.KOf]
      refine' L3.hasDef_mk ?a ?l ?c ?k
      (case a => k_is); (case l => k_is); (case c => k_is); (case k => k_is)
    have DL_cell_at : L3.HasDef (L2.KOf KX) "_law_cell_at" sL_cell_at := by
      dsimp only [L2.KOf]
      refine' L3.hasDef_mk ?a ?l ?c ?k
      (case a => k_is); (case l => k_is); (case c => k_is); (case k => k_is)
    have DL_num : L3.HasDef (L2.KOf KX) "_law_num" sL_num := by
      dsimp only [L2.KOf]
      refine' L3.hasDef_mk ?a ?l ?c ?k
      (case a => k_is); (case l => k_is); (case c => k_is); (case k => k_is)
    have DL_plus : L3.HasDef (L2.KOf KX) "_law_plus" sL_plus := by
      dsimp only [L2.KOf]
      refine' L3.hasDef_mk ?a ?l ?c ?k
      (case a => k_is); (case l => k_is); (case c => k_is); (case k => k_is)
    have DL_times : L3.HasDef (L2.KOf KX) "_law_times" sL_times := by
      dsimp only [L2.KOf]
      refine' L3.hasDef_mk ?a ?l ?c ?k
      (case a => k_is); (case l => k_is); (case c => k_is); (case k => k_is)
    have DL_product : L3.HasDef (L2.KOf KX) "_law_product" sL_product := by
      dsimp only [L2.KOf]
      refine' L3.hasDef_mk ?a ?l ?c ?k
      (case a => k_is); (case l => k_is); (case c => k_is); (case k => k_is)
    have DL_sum : L3.HasDef (L2.KOf KX) "_law_sum" sL_sum := by
      dsimp only [L2.KOf]
      refine' L3.hasDef_mk ?a ?l ?c ?k
      (case a => k_is); (case l => k_is); (case c => k_is); (case k => k_is)
    have DL_next : L3.HasDef (L2.KOf KX) "_law_next" sL_next := by
      dsimp only [L2.KOf]
      refine' L3.hasDef_mk ?a ?l ?c ?k
      (case a => k_is); (case l => k_is); (case c => k_is); (case k => k_is)
    have DL_pieces : L3.HasDef (L2.KOf KX) "_law_pieces" sL_pieces := by
      dsimp only [L2.KOf]
      refine' L3.hasDef_mk ?a ?l ?c ?k
      (case a => k_is); (case l => k_is); (case c => k_is); (case k => k_is)
    have D_less : L3.HasDef (L2.KOf KX) "less" s_less := by
      dsimp only [L2.KOf]
      refine' L3.hasDef_mk ?a ?l ?c ?k
      (case a => k_is); (case l => k_is); (case c => k_is); (case k => k_is)
    have D_check_pieces : L3.HasDef (L2.KOf KX) "check_pieces" s_check_pieces := by
      dsimp only [L2.KOf]
      refine' L3.hasDef_mk ?a ?l ?c ?k
      (case a => k_is); (case l => k_is); (case c => k_is); (case k => k_is)
    have D_row_of : L3.HasDef (L2.KOf KX) "row_of" s_row_of := by
      dsimp only [L2.KOf]
      refine' L3.hasDef_mk ?a ?l ?c ?k
      (case a => k_is); (case l => k_is); (case c => k_is); (case k => k_is)
    have D_greatest_divisor : L3.HasDef (L2.KOf KX) "greatest_divisor" s_greatest_divisor := by
      dsimp only [L2.KOf]
      refine' L3.hasDef_mk ?a ?l ?c ?k
      (case a => k_is); (case l => k_is); (case c => k_is); (case k => k_is)
    have D_number : L3.HasDef (L2.KOf KX) "number" s_number := by
      dsimp only [L2.KOf]
      refine' L3.hasDef_mk ?a ?l ?c ?k
      (case a => k_is); (case l => k_is); (case c => k_is); (case k => k_is)
    have D_plus : L3.HasDef (L2.KOf KX) "plus" s_plus := by
      dsimp only [L2.KOf]
      refine' L3.hasDef_mk ?a ?l ?c ?k
      (case a => k_is); (case l => k_is); (case c => k_is); (case k => k_is)
    have D_minus : L3.HasDef (L2.KOf KX) "minus" s_minus := by
      dsimp only [L2.KOf]
      refine' L3.hasDef_mk ?a ?l ?c ?k
      (case a => k_is); (case l => k_is); (case c => k_is); (case k => k_is)
    have D_times : L3.HasDef (L2.KOf KX) "times" s_times := by
      dsimp only [L2.KOf]
      refine' L3.hasDef_mk ?a ?l ?c ?k
      (case a => k_is); (case l => k_is); (case c => k_is); (case k => k_is)
    have D_moved : L3.HasDef (L2.KOf KX) "moved" s_moved := by
      dsimp only [L2.KOf]
      refine' L3.hasDef_mk ?a ?l ?c ?k
      (case a => k_is); (case l => k_is); (case c => k_is); (case k => k_is)
    have D_row_moved : L3.HasDef (L2.KOf KX) "row_moved" s_row_moved := by
      dsimp only [L2.KOf]
      refine' L3.hasDef_mk ?a ?l ?c ?k
      (case a => k_is); (case l => k_is); (case c => k_is); (case k => k_is)
    have D_sign : L3.HasDef (L2.KOf KX) "sign" s_sign := by
      dsimp only [L2.KOf]
      refine' L3.hasDef_mk ?a ?l ?c ?k
      (case a => k_is); (case l => k_is); (case c => k_is); (case k => k_is)
    have D_over : L3.HasDef (L2.KOf KX) "over" s_over := by
      dsimp only [L2.KOf]
      refine' L3.hasDef_mk ?a ?l ?c ?k
      (case a => k_is); (case l => k_is); (case c => k_is); (case k => k_is)
    have D_stretched : L3.HasDef (L2.KOf KX) "stretched" s_stretched := by
      dsimp only [L2.KOf]
      refine' L3.hasDef_mk ?a ?l ?c ?k
      (case a => k_is); (case l => k_is); (case c => k_is); (case k => k_is)
    have D_row_stretched : L3.HasDef (L2.KOf KX) "row_stretched" s_row_stretched := by
      dsimp only [L2.KOf]
      refine' L3.hasDef_mk ?a ?l ?c ?k
      (case a => k_is); (case l => k_is); (case c => k_is); (case k => k_is)
    have DL_plain : L3.HasDef (L2.KOf KX) "_law_plain" sL_plain := by
      dsimp only [L2.KOf]
      refine' L3.hasDef_mk ?a ?l ?c ?k
      (case a => k_is); (case l => k_is); (case c => k_is); (case k => k_is)
    have DL_refused : L3.HasDef (L2.KOf KX) "_law_refused" sL_refused := by
      dsimp only [L2.KOf]
      refine' L3.hasDef_mk ?a ?l ?c ?k
      (case a => k_is); (case l => k_is); (case c => k_is); (case k => k_is)
    have D_curve_of : L3.HasDef (L2.KOf KX) "curve_of" s_curve_of := by
      dsimp only [L2.KOf]
      refine' L3.hasDef_mk ?a ?l ?c ?k
      (case a => k_is); (case l => k_is); (case c => k_is); (case k => k_is)
    have D_number_at : L3.HasDef (L2.KOf KX) "number_at" s_number_at := by
      dsimp only [L2.KOf]
      refine' L3.hasDef_mk ?a ?l ?c ?k
      (case a => k_is); (case l => k_is); (case c => k_is); (case k => k_is)
    have D_taken : L3.HasDef (L2.KOf KX) "taken" s_taken := by
      dsimp only [L2.KOf]
      refine' L3.hasDef_mk ?a ?l ?c ?k
      (case a => k_is); (case l => k_is); (case c => k_is); (case k => k_is)
    have D_slope : L3.HasDef (L2.KOf KX) "slope" s_slope := by
      dsimp only [L2.KOf]
      refine' L3.hasDef_mk ?a ?l ?c ?k
      (case a => k_is); (case l => k_is); (case c => k_is); (case k => k_is)
    have D_worth : L3.HasDef (L2.KOf KX) "worth" s_worth := by
      dsimp only [L2.KOf]
      refine' L3.hasDef_mk ?a ?l ?c ?k
      (case a => k_is); (case l => k_is); (case c => k_is); (case k => k_is)
    have D_smooth_at : L3.HasDef (L2.KOf KX) "smooth_at" s_smooth_at := by
      dsimp only [L2.KOf]
      refine' L3.hasDef_mk ?a ?l ?c ?k
      (case a => k_is); (case l => k_is); (case c => k_is); (case k => k_is)
    have D_smoothness : L3.HasDef (L2.KOf KX) "smoothness" s_smoothness := by
      dsimp only [L2.KOf]
      refine' L3.hasDef_mk ?a ?l ?c ?k
      (case a => k_is); (case l => k_is); (case c => k_is); (case k => k_is)
    have DL_worth_of : L3.HasDef (L2.KOf KX) "_law_worth_of" sL_worth_of := by
      dsimp only [L2.KOf]
      refine' L3.hasDef_mk ?a ?l ?c ?k
      (case a => k_is); (case l => k_is); (case c => k_is); (case k => k_is)
    have DL_led : L3.HasDef (L2.KOf KX) "_law_led" sL_led := by
      dsimp only [L2.KOf]
      refine' L3.hasDef_mk ?a ?l ?c ?k
      (case a => k_is); (case l => k_is); (case c => k_is); (case k => k_is)
    have D_plainest : L3.HasDef (L2.KOf KX) "plainest" s_plainest := by
      dsimp only [L2.KOf]
      refine' L3.hasDef_mk ?a ?l ?c ?k
      (case a => k_is); (case l => k_is); (case c => k_is); (case k => k_is)
    have D_row_worth : L3.HasDef (L2.KOf KX) "row_worth" s_row_worth := by
      dsimp only [L2.KOf]
      refine' L3.hasDef_mk ?a ?l ?c ?k
      (case a => k_is); (case l => k_is); (case c => k_is); (case k => k_is)
    have D_law : L3.HasDef (L2.KOf KX) "law" s_law := by
      dsimp only [L2.KOf]
      refine' L3.hasDef_mk ?a ?l ?c ?k
      (case a => k_is); (case l => k_is); (case c => k_is); (case k => k_is)
    have z_list : PySem.W.nsIn (L2.KOf KX) mainGlobals "list" = some none := by
      dsimp only [L2.KOf]
      k_is
    have m_list := PySem.W.mg_none_of KX G z_list
    have z_tuple : PySem.W.nsIn (L2.KOf KX) mainGlobals "tuple" = some none := by
      dsimp only [L2.KOf]
      k_is
    have m_tuple := PySem.W.mg_none_of KX G z_tuple
    have z_len : PySem.W.nsIn (L2.KOf KX) mainGlobals "len" = some none := by
      dsimp only [L2.KOf]
      k_is
    have m_len := PySem.W.mg_none_of KX G z_len
    have z_abs : PySem.W.nsIn (L2.KOf KX) mainGlobals "abs" = some none := by
      dsimp only [L2.KOf]
      k_is
    have m_abs := PySem.W.mg_none_of KX G z_abs
    have z_max : PySem.W.nsIn (L2.KOf KX) mainGlobals "max" = some none := by
      dsimp only [L2.KOf]
      k_is
    have m_max := PySem.W.mg_none_of KX G z_max
    have z_range : PySem.W.nsIn (L2.KOf KX) mainGlobals "range" = some none := by
      dsimp only [L2.KOf]
      k_is
    have m_range := PySem.W.mg_none_of KX G z_range
    have z_min : PySem.W.nsIn (L2.KOf KX) mainGlobals "min" = some none := by
      dsimp only [L2.KOf]
      k_is
    have m_min := PySem.W.mg_none_of KX G z_min
    have z_all : PySem.W.nsIn (L2.KOf KX) mainGlobals "all" = some none := by
      dsimp only [L2.KOf]
      k_is
    have m_all := PySem.W.mg_none_of KX G z_all
    have z_any : PySem.W.nsIn (L2.KOf KX) mainGlobals "any" = some none := by
      dsimp only [L2.KOf]
      k_is
    have m_any := PySem.W.mg_none_of KX G z_any
    have z_isinstance : PySem.W.nsIn (L2.KOf KX) mainGlobals "isinstance" = some none := by
      dsimp only [L2.KOf]
      k_is
    have m_isinstance := PySem.W.mg_none_of KX G z_isinstance
    have z_ValueError : PySem.W.nsIn (L2.KOf KX) mainGlobals "ValueError" = some none := by
      dsimp only [L2.KOf]
      k_is
    have m_ValueError := PySem.W.mg_none_of KX G z_ValueError
    have z_reversed : PySem.W.nsIn (L2.KOf KX) mainGlobals "reversed" = some none := by
      dsimp only [L2.KOf]
      k_is
    have m_reversed := PySem.W.mg_none_of KX G z_reversed
    have z_int : PySem.W.nsIn (L2.KOf KX) mainGlobals "int" = some none := by
      dsimp only [L2.KOf]
      k_is
    have m_int := PySem.W.mg_none_of KX G z_int
    have rw_ : ∃ I : Ecx, @Law.Raw I (L2.KOf KX) := by
      dsimp only [L2.KOf]
      refine' Law.raw_mk ?k_MOST_PIECES ?n_NoPieces ?q_NoPieces ?k_MOST_DEGREE ?n_TooGreat ?q_TooGreat ?n_NoNumber ?q_NoNumber ?k_ONE ?l_ONE ?n_BelowError ?t1_BelowError ?x1_BelowError ?x6_BelowError ?s_NoNumber_BelowError ?s_NoPieces_BelowError ?n_NoStretch ?s_NoStretch_BelowError ?s_TooGreat_BelowError ?n_NoCurve ?n_NoName ?n_NoNear ?n_NoRow ?n_NoText ?ik0_0 ?x1_NoNumber ?x2_NoNumber ?x3_NoNumber ?x4_NoNumber ?x5_NoNumber ?x6_NoNumber ?ik0_1 ?x1_NoPieces ?x2_NoPieces ?x3_NoPieces ?x4_NoPieces ?x5_NoPieces ?x6_NoPieces ?ik0_2 ?x1_NoStretch ?x2_NoStretch ?x3_NoStretch ?x4_NoStretch ?x5_NoStretch ?x6_NoStretch ?ik0_3 ?x1_TooGreat ?x2_TooGreat ?x3_TooGreat ?x4_TooGreat ?x5_TooGreat ?x6_TooGreat ?ik_NoNumber_0 ?ik_NoNumber_1 ?ik_NoNumber_2 ?ik_NoNumber_3 ?ik_ValueError_0 ?ik_ValueError_1 ?ik_ValueError_2 ?ik_ValueError_3 ?k_MOST_NUMBERS ?k_NOUGHT ?l_NOUGHT ?ik_tuple_0 ?ik_tuple_1 ?ik_tuple_2 ?ik_tuple_3 ?ik_tuple_4 ?n__law_plus ?n__law_times ?q_NoStretch
      (case k_MOST_PIECES => k_is)
      (case n_NoPieces => k_is)
      (case q_NoPieces => k_exc)
      (case k_MOST_DEGREE => k_is)
      (case n_TooGreat => k_is)
      (case q_TooGreat => k_exc)
      (case n_NoNumber => k_is)
      (case q_NoNumber => k_exc)
      (case k_ONE => k_is)
      (case l_ONE => k_is)
      (case n_BelowError => k_is)
      (case t1_BelowError => k_is)
      (case x1_BelowError => k_is)
      (case x6_BelowError => k_is)
      (case s_NoNumber_BelowError => k_is)
      (case s_NoPieces_BelowError => k_is)
      (case n_NoStretch => k_is)
      (case s_NoStretch_BelowError => k_is)
      (case s_TooGreat_BelowError => k_is)
      (case n_NoCurve => k_is)
      (case n_NoName => k_is)
      (case n_NoNear => k_is)
      (case n_NoRow => k_is)
      (case n_NoText => k_is)
      (case ik0_0 => kit_is)
      (case x1_NoNumber => k_is)
      (case x2_NoNumber => k_is)
      (case x3_NoNumber => k_is)
      (case x4_NoNumber => k_is)
      (case x5_NoNumber => k_is)
      (case x6_NoNumber => k_is)
      (case ik0_1 => kit_is)
      (case x1_NoPieces => k_is)
      (case x2_NoPieces => k_is)
      (case x3_NoPieces => k_is)
      (case x4_NoPieces => k_is)
      (case x5_NoPieces => k_is)
      (case x6_NoPieces => k_is)
      (case ik0_2 => kit_is)
      (case x1_NoStretch => k_is)
      (case x2_NoStretch => k_is)
      (case x3_NoStretch => k_is)
      (case x4_NoStretch => k_is)
      (case x5_NoStretch => k_is)
      (case x6_NoStretch => k_is)
      (case ik0_3 => kit_is)
      (case x1_TooGreat => k_is)
      (case x2_TooGreat => k_is)
      (case x3_TooGreat => k_is)
      (case x4_TooGreat => k_is)
      (case x5_TooGreat => k_is)
      (case x6_TooGreat => k_is)
      (case ik_NoNumber_0 => kit_is)
      (case ik_NoNumber_1 => kit_is)
      (case ik_NoNumber_2 => kit_is)
      (case ik_NoNumber_3 => kit_is)
      (case ik_ValueError_0 => kit_is)
      (case ik_ValueError_1 => kit_is)
      (case ik_ValueError_2 => kit_is)
      (case ik_ValueError_3 => kit_is)
      (case k_MOST_NUMBERS => k_is)
      (case k_NOUGHT => k_is)
      (case l_NOUGHT => k_is)
      (case ik_tuple_0 => kit_is)
      (case ik_tuple_1 => kit_is)
      (case ik_tuple_2 => kit_is)
      (case ik_tuple_3 => kit_is)
      (case ik_tuple_4 => kit_is)
      (case n__law_plus => k_is)
      (case n__law_times => k_is)
      (case q_NoStretch => k_exc)
    obtain ⟨I, R⟩ := rw_
    have A := @Law.facts_of I _ _ _ R KX G m_list m_tuple m_len m_abs m_max m_range m_min m_all m_any m_isinstance m_ValueError m_reversed m_int
    refine L3.law_of KX G hmg D_law (fun _ _ _ _ _ _ _ => rfl) (fun base kb nb f fd F => ?_)
    have CL_clean := L3.cal_of (P := PG) (w := w) (base := base) KX G DL_clean (ps := ["_law_numbers"]) (fun _ _ _ _ _ _ us hl => match us, hl with | [_], _ => rfl) (fun f fd F => @okL_clean I _ w _ _ base f fd A F)
    have CL_cell_at := L3.cal_of (P := PG) (w := w) (base := base) KX G DL_cell_at (ps := ["_law_script", "_law_k"]) (fun _ _ _ _ _ _ us hl => match us, hl with | [_, _], _ => rfl) (fun f fd F => @okL_cell_at I _ w _ _ base f fd A F)
    have CL_num := L3.cal_of (P := PG) (w := w) (base := base) KX G DL_num (ps := ["_law_top", "_law_bottom"]) (fun _ _ _ _ _ _ us hl => match us, hl with | [_, _], _ => rfl) (fun f fd F => @okL_num I _ w _ _ base f fd A F)
    have CL_plus := L3.cal_of (P := PG) (w := w) (base := base) KX G DL_plus (ps := ["_law_one", "_law_other"]) (fun _ _ _ _ _ _ us hl => match us, hl with | [_, _], _ => rfl) (fun f fd F => @okL_plus I _ w _ _ base f fd A CL_num F)
    have CL_times := L3.cal_of (P := PG) (w := w) (base := base) KX G DL_times (ps := ["_law_one", "_law_other"]) (fun _ _ _ _ _ _ us hl => match us, hl with | [_, _], _ => rfl) (fun f fd F => @okL_times I _ w _ _ base f fd A CL_num F)
    have CL_product := L3.cal_of (P := PG) (w := w) (base := base) KX G DL_product (ps := ["_law_one", "_law_other"]) (fun _ _ _ _ _ _ us hl => match us, hl with | [_, _], _ => rfl) (fun f fd F => @okL_product I _ w _ _ base f fd A CL_clean CL_plus CL_times F)
    have CL_sum := L3.cal_of (P := PG) (w := w) (base := base) KX G DL_sum (ps := ["_law_one", "_law_other"]) (fun _ _ _ _ _ _ us hl => match us, hl with | [_, _], _ => rfl) (fun f fd F => @okL_sum I _ w _ _ base f fd A CL_clean CL_plus F)
    have CL_next := L3.cal_of (P := PG) (w := w) (base := base) KX G DL_next (ps := ["_law_curve", "_law_x", "_law_cell"]) (fun _ _ _ _ _ _ us hl => match us, hl with | [_, _, _], _ => rfl) (fun f fd F => @okL_next I _ w _ _ base f fd A CL_num CL_product CL_sum CL_times F)
    have CL_pieces := L3.cal_of (P := PG) (w := w) (base := base) KX G DL_pieces (ps := ["_law_script", "_law_at", "_law_most", "_law_places"]) (fun _ _ _ _ _ _ us hl => match us, hl with | [_, _, _, _], _ => rfl) (fun f fd F => @okL_pieces I _ w _ _ base f fd A CL_clean CL_cell_at CL_plus CL_next CL_num F)
    have C_less := L3.cal_of (P := PG) (w := w) (base := base) KX G D_less (ps := ["one", "other"]) (fun _ _ _ _ _ _ us hl => match us, hl with | [_, _], _ => rfl) (fun f fd F => @ok_less I _ w _ _ base f fd A F)
    have C_check_pieces := L3.cal_of (P := PG) (w := w) (base := base) KX G D_check_pieces (ps := ["pieces"]) (fun _ _ _ _ _ _ us hl => match us, hl with | [_], _ => rfl) (fun f fd F => @ok_check_pieces I _ w _ _ base f fd A C_less F)
    have C_row_of := L3.cal_of (P := PG) (w := w) (base := base) KX G D_row_of (ps := ["pieces"]) (fun _ _ _ _ _ _ us hl => match us, hl with | [_], _ => rfl) (fun f fd F => @ok_row_of I _ w _ _ base f fd A C_check_pieces F)
    have C_greatest_divisor := L3.cal_of (P := PG) (w := w) (base := base) KX G D_greatest_divisor (ps := ["one", "other"]) (fun _ _ _ _ _ _ us hl => match us, hl with | [_, _], _ => rfl) (fun f fd F => @ok_greatest_divisor I _ w _ _ base f fd A F)
    have C_number := L3.cal_of (P := PG) (w := w) (base := base) KX G D_number (ps := ["top", "bottom"]) (fun _ _ _ _ _ _ us hl => match us, hl with | [_, _], _ => rfl) (fun f fd F => @ok_number I _ w _ _ base f fd A C_greatest_divisor F)
    have C_plus := L3.cal_of (P := PG) (w := w) (base := base) KX G D_plus (ps := ["one", "other"]) (fun _ _ _ _ _ _ us hl => match us, hl with | [_, _], _ => rfl) (fun f fd F => @ok_plus I _ w _ _ base f fd A C_number F)
    have C_minus := L3.cal_of (P := PG) (w := w) (base := base) KX G D_minus (ps := ["one", "other"]) (fun _ _ _ _ _ _ us hl => match us, hl with | [_, _], _ => rfl) (fun f fd F => @ok_minus I _ w _ _ base f fd A C_number F)
    have C_times := L3.cal_of (P := PG) (w := w) (base := base) KX G D_times (ps := ["one", "other"]) (fun _ _ _ _ _ _ us hl => match us, hl with | [_, _], _ => rfl) (fun f fd F => @ok_times I _ w _ _ base f fd A C_number F)
    have C_moved := L3.cal_of (P := PG) (w := w) (base := base) KX G D_moved (ps := ["curve", "c"]) (fun _ _ _ _ _ _ us hl => match us, hl with | [_, _], _ => rfl) (fun f fd F => @ok_moved I _ w _ _ base f fd A C_minus C_times F)
    have C_row_moved := L3.cal_of (P := PG) (w := w) (base := base) KX G D_row_moved (ps := ["row", "c"]) (fun _ _ _ _ _ _ us hl => match us, hl with | [_, _], _ => rfl) (fun f fd F => @ok_row_moved I _ w _ _ base f fd A C_plus C_moved F)
    have C_sign := L3.cal_of (P := PG) (w := w) (base := base) KX G D_sign (ps := ["one"]) (fun _ _ _ _ _ _ us hl => match us, hl with | [_], _ => rfl) (fun f fd F => @ok_sign I _ w _ _ base f fd A F)
    have C_over := L3.cal_of (P := PG) (w := w) (base := base) KX G D_over (ps := ["one", "other"]) (fun _ _ _ _ _ _ us hl => match us, hl with | [_, _], _ => rfl) (fun f fd F => @ok_over I _ w _ _ base f fd A C_number F)
    have C_stretched := L3.cal_of (P := PG) (w := w) (base := base) KX G D_stretched (ps := ["curve", "k"]) (fun _ _ _ _ _ _ us hl => match us, hl with | [_, _], _ => rfl) (fun f fd F => @ok_stretched I _ w _ _ base f fd A C_sign C_times C_over F)
    have C_row_stretched := L3.cal_of (P := PG) (w := w) (base := base) KX G D_row_stretched (ps := ["row", "k"]) (fun _ _ _ _ _ _ us hl => match us, hl with | [_, _], _ => rfl) (fun f fd F => @ok_row_stretched I _ w _ _ base f fd A C_sign C_times C_stretched F)
    have CL_plain := L3.cal_of (P := PG) (w := w) (base := base) KX G DL_plain (ps := ["_law_pieces_here"]) (fun _ _ _ _ _ _ us hl => match us, hl with | [_], _ => rfl) (fun f fd F => @okL_plain I _ w _ _ base f fd A F)
    have CL_refused := L3.cal_of (P := PG) (w := w) (base := base) KX G DL_refused (ps := ["_law_row", "_law_k"]) (fun _ _ _ _ _ _ us hl => match us, hl with | [_, _], _ => rfl) (fun f fd F => @okL_refused I _ w _ _ base f fd A C_row_stretched F)
    have C_curve_of := L3.cal_of (P := PG) (w := w) (base := base) KX G D_curve_of (ps := ["numbers"]) (fun _ _ _ _ _ _ us hl => match us, hl with | [_], _ => rfl) (fun f fd F => @ok_curve_of I _ w _ _ base f fd A C_sign F)
    have C_number_at := L3.cal_of (P := PG) (w := w) (base := base) KX G D_number_at (ps := ["curve", "place"]) (fun _ _ _ _ _ _ us hl => match us, hl with | [_, _], _ => rfl) (fun f fd F => @ok_number_at I _ w _ _ base f fd A F)
    have C_taken := L3.cal_of (P := PG) (w := w) (base := base) KX G D_taken (ps := ["one", "other"]) (fun _ _ _ _ _ _ us hl => match us, hl with | [_, _], _ => rfl) (fun f fd F => @ok_taken I _ w _ _ base f fd A C_curve_of C_minus C_number_at F)
    have C_slope := L3.cal_of (P := PG) (w := w) (base := base) KX G D_slope (ps := ["curve"]) (fun _ _ _ _ _ _ us hl => match us, hl with | [_], _ => rfl) (fun f fd F => @ok_slope I _ w _ _ base f fd A C_times C_number F)
    have C_worth := L3.cal_of (P := PG) (w := w) (base := base) KX G D_worth (ps := ["curve", "x"]) (fun _ _ _ _ _ _ us hl => match us, hl with | [_, _], _ => rfl) (fun f fd F => @ok_worth I _ w _ _ base f fd A C_plus C_times F)
    have C_smooth_at := L3.cal_of (P := PG) (w := w) (base := base) KX G D_smooth_at (ps := ["one", "other", "joint"]) (fun _ _ _ _ _ _ us hl => match us, hl with | [_, _, _], _ => rfl) (fun f fd F => @ok_smooth_at I _ w _ _ base f fd A C_taken C_sign C_slope C_worth F)
    have C_smoothness := L3.cal_of (P := PG) (w := w) (base := base) KX G D_smoothness (ps := ["row"]) (fun _ _ _ _ _ _ us hl => match us, hl with | [_], _ => rfl) (fun f fd F => @ok_smoothness I _ w _ _ base f fd A C_smooth_at F)
    have CL_worth_of := L3.cal_of (P := PG) (w := w) (base := base) KX G DL_worth_of (ps := ["_law_curve", "_law_x"]) (fun _ _ _ _ _ _ us hl => match us, hl with | [_, _], _ => rfl) (fun f fd F => @okL_worth_of I _ w _ _ base f fd A CL_plus CL_times F)
    have CL_led := L3.cal_of (P := PG) (w := w) (base := base) KX G DL_led (ps := ["_law_pieces_here", "_law_row", "_law_smooth", "_law_by", "_law_how"]) (fun _ _ _ _ _ _ us hl => match us, hl with | [_, _, _, _, _], _ => rfl) (fun f fd F => @okL_led I _ w _ _ base f fd A C_smoothness CL_times CL_plus CL_worth_of F)
    have C_plainest := L3.cal_of (P := PG) (w := w) (base := base) KX G D_plainest (ps := ["row"]) (fun _ _ _ _ _ _ us hl => match us, hl with | [_], _ => rfl) (fun f fd F => @ok_plainest I _ w _ _ base f fd A F)
    have C_row_worth := L3.cal_of (P := PG) (w := w) (base := base) KX G D_row_worth (ps := ["row", "x"]) (fun _ _ _ _ _ _ us hl => match us, hl with | [_, _], _ => rfl) (fun f fd F => @ok_row_worth I _ w _ _ base f fd A C_worth C_less F)
    exact @law_conv I _ _ _ _ _ _ _ _ _ (@ok_law I _ w _ _ base f fd A CL_pieces C_row_of CL_num C_row_moved C_row_stretched CL_plain CL_refused CL_led C_plainest C_row_worth CL_cell_at CL_times F) (by decide) Law.pure_law
